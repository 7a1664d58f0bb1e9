package decode_test

import (
	"slices"
	"testing"
	"unsafe"

	"tiller/api"
	"tiller/decode"
	"tiller/model"
)

// weightLists are all of a model's rows and matrices' data.
func weightLists(w model.Weights) [][]api.Num {
	l := [][]api.Num{w.Embed.Data, w.Last, w.Out.Data}
	for _, b := range w.Blocks {
		l = append(l, b.First, b.Q.Data, b.K.Data, b.V.Data, b.O.Data, b.Second, b.Up.Data, b.Down.Data)
	}
	return l
}

// roomyRow is the same row with spare room behind it, filled with 77.
func roomyRow(row []int) []int {
	return append(slices.Clone(row), 77, 77, 77)[:len(row)]
}

// rowStays tells whether a roomy row, and the room behind it, is as it was.
func rowStays(row, was []int) bool {
	return slices.Equal(row, was) && slices.Equal(row[len(row):len(row)+3], []int{77, 77, 77})
}

// K3: a node neither changes nor keeps the numbers that it is made with: they may change in the middle of a task.
func TestWeightsApart(t *testing.T) {
	c := config(5, 4, 2, 6, 2)
	w := talkative(t, c, 7)
	was := model.Copy(w)
	x := watched(t, c, w, plan(2, 40, 2, 5))
	x.w = was
	x.begin(decode.Task{Req: 1, Prompt: []int{3, 3, 3}, Most: 5}, "", false)
	x.all()
	x.begin(decode.Task{Req: 2, Prompt: []int{1, 4, 2, 3, 1}, Most: 9}, "", false)
	x.begin(decode.Task{Req: 3, Prompt: []int{1, 4, 2, 3, 1}, Most: 9}, goodText(t, c, was, []int{1, 4, 2, 3, 1}, 2), true)
	x.tick()
	if !slices.EqualFunc(weightLists(w), weightLists(was), slices.Equal) {
		t.Fatal("a node changed the numbers that it was made with")
	}
	for _, l := range weightLists(w) {
		for i := range l {
			l[i] = 3
		}
	}
	w.Blocks[0].Q = api.Mat{}
	x.begin(decode.Task{Req: 4, Prompt: []int{4, 2}, Most: 9}, "", false)
	x.all()
}

// K3: a task that is begun is neither changed nor kept, also beside an error, and the room behind its prompt stays.
func TestTaskApart(t *testing.T) {
	c := config(5, 4, 2, 6, 2)
	w := talkative(t, c, 7)
	was := []int{1, 4, 2, 3, 1}
	good := goodText(t, c, w, was, 2)
	for _, text := range []string{"", good, good[1:]} {
		x := watched(t, c, w, plan(2, 20, 2, 2))
		prompt := roomyRow(was)
		for _, task := range []decode.Task{{Req: 1, Prompt: prompt, Most: 6}, {Req: 1, Prompt: prompt, Most: 6}, {Req: -1, Prompt: prompt, Most: 6}, {Req: 2, Prompt: prompt, Most: 200}, {Req: 2, Prompt: prompt, Most: 100}, {Req: 2, Try: 2, Prompt: prompt, Most: 4}, {Req: 3, Prompt: prompt, Most: 6}} {
			x.begin(task, text, text == good)
			if x.n.Need(task); !rowStays(prompt, was) {
				t.Fatalf("Begin(%v) changed its prompt", task)
			}
		}
		x.tick()
		if !rowStays(prompt, was) {
			t.Errorf("a tick changed a prompt that was handed in: %v", prompt)
		}
		for i := range prompt {
			prompt[i] = 0
		}
		x.all()
		if !rowStays(prompt, []int{0, 0, 0, 0, 0}) {
			t.Errorf("ticks changed a prompt that was handed in: %v", prompt)
		}
	}
}

// K3: a text that is handed in is neither changed nor kept: the bytes that it lies in may be other ones later on.
func TestTextApart(t *testing.T) {
	c := config(5, 4, 2, 6, 2)
	w := talkative(t, c, 7)
	prompt := []int{1, 4, 2, 3, 1}
	good := goodText(t, c, w, prompt, 2)
	for _, text := range []string{good, good[:len(good)-1]} {
		bytes := []byte(text)
		x := watched(t, c, w, plan(2, 20, 2, 2))
		x.begin(decode.Task{Prompt: prompt, Most: 6}, unsafe.String(&bytes[0], len(bytes)), text == good)
		if string(bytes) != text {
			t.Error("a text was changed")
		}
		clear(bytes)
		x.all()
	}
}

// K3: a change of an answer changes no other one, neither of the same tick nor of a later one.
func TestAnswersApart(t *testing.T) {
	c := config(5, 4, 2, 6, 2)
	w := talkative(t, c, 7)
	prompt := []int{1, 4, 2}
	want := says(t, c, w, prompt, 6)
	n := begun(t, c, w, plan(2, 64, 3, 9))
	for round := range 3 {
		for i := range 4 {
			if e := n.Begin(decode.Task{Req: i, Prompt: prompt, Most: 6 + 3*(i%2)}, goodText(t, c, w, prompt, 2)); e != api.OK {
				t.Fatalf("Begin: %d", e)
			}
		}
		n.Tick()
		first, then := n.Tick(), n.Tick()
		if len(first) != 2 || len(then) != 2 {
			t.Fatalf("round %d: %v, %v", round, first, then)
		}
		for i, a := range slices.Concat(first, then) {
			if !slices.Equal(a.Tokens[:len(want)], want) {
				t.Errorf("round %d, answer %d: %v, not %v", round, i, a.Tokens, want)
			}
			l := a.Tokens[:cap(a.Tokens)]
			for k := range l {
				l[k] = 1000 + i
			}
		}
		for i, a := range slices.Concat(first, then) {
			if slices.Min(a.Tokens) != 1000+i || slices.Max(a.Tokens) != 1000+i {
				t.Errorf("round %d, answer %d shares memory: %v", round, i, a.Tokens)
			}
		}
	}
}

// K3: an answer of a tick stays as it was, whatever comes behind it.
func TestAnswersStay(t *testing.T) {
	c := config(5, 4, 2, 6, 2)
	w := talkative(t, c, 7)
	n := begun(t, c, w, plan(2, 64, 128, 9))
	n.Begin(decode.Task{Req: 1, Prompt: []int{1, 4, 2}, Most: 6}, "")
	first := n.Tick()
	was := slices.Clone(first[0].Tokens)
	for range 3 {
		n.Begin(decode.Task{Req: 1, Prompt: []int{2, 2}, Most: 7}, "")
		n.Tick()
	}
	if len(first) != 1 || first[0].Req != 1 || !slices.Equal(first[0].Tokens, was) {
		t.Errorf("%v, not %v", first, was)
	}
}
