package decode

import (
	"slices"

	"tiller/api"
	"tiller/block"
	"tiller/greedy"
	"tiller/prefill"
	"tiller/step"
)

// state is how far a task has come.
type state int

const (
	reading state = iota // its prompt is worked on
	saying               // its answer is gone on with
	over                 // its answer is at its end
)

// task is a request that is gone on with, and how far it has come.
type task struct {
	req, try int
	most     int
	own      bool
	pages    []int // the pool's, by their numbers
	state    state
	view     step.View // of the tokens that were fed
	next     []int     // what is to be fed: what is left of the prompt, then the answer's last token
	answer   []int
}

// newTask: a task at its beginning, without pages yet.
func newTask(c api.Config, t Task, text string) task {
	begun := task{req: t.Req, try: t.Try, most: t.Most}
	view, ok := handed(c, t.Prompt, text)
	if ok {
		// The prompt's last token is fed anew: what is liked behind it isn't handed over.
		begun.state, begun.view = saying, step.Cut(view, len(t.Prompt)-1)
	} else {
		begun.state, begun.own = reading, true
	}
	begun.next = slices.Clone(t.Prompt[len(begun.view.Tokens):])
	return begun
}

// handed: the view of a prompt that a text says; false: it says none of just this prompt.
func handed(c api.Config, prompt []int, text string) (step.View, bool) {
	blocks, e := prefill.Unbundle(c, text)
	if e != api.OK {
		return step.View{}, false
	}
	view, e := block.Join(c, blocks)
	return view, e == api.OK && slices.Equal(view.Tokens, prompt)
}

// goOn: a task behind one tick more; at its end its pages are free.
func (n *Node) goOn(t task) task {
	left := n.plan.Rate
	switch t.state {
	case reading:
		left = n.read(&t, left)
		if len(t.next) > 1 {
			break
		}
		t.state = saying
		fallthrough
	case saying:
		n.say(&t, left)
		if !greedy.Over(t.answer, t.most) {
			break
		}
		t.state = over
		fallthrough
	case over:
		n.free(t.pages)
	}
	return t
}

// read: at most so many tokens of the prompt are fed, but for the last one, behind which the answer begins; how many are left to the answer.
func (n *Node) read(t *task, left int) int {
	for left > 0 && len(t.next) > 1 {
		n.feed(t)
		left--
	}
	return left
}

// say: the answer has at most so many tokens more.
func (n *Node) say(t *task, left int) {
	for left > 0 && !greedy.Over(t.answer, t.most) {
		token := greedy.Next(n.feed(t))
		t.answer, t.next = append(t.answer, token), []int{token}
		left--
	}
}

// feed: a task's next token is fed; how much each token is liked behind it.
func (n *Node) feed(t *task) []api.Num {
	view, likes, _ := step.Feed(n.config, n.weights, t.view, t.next[0]) // Begin took the prompt, and no view of another form, so there is no error
	t.view, t.next = view, t.next[1:]
	return likes
}
