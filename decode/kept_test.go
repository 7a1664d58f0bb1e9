package decode

import (
	"testing"

	"tiller/api"
	"tiller/model"
)

// No more is kept than the tasks that are there need: of one that is dropped or answered nothing stays, neither behind the others in their list.
func TestKept(t *testing.T) {
	c := api.Config{Vocab: 7, Dim: 2, Heads: 1, Hidden: 2, Layers: 1}
	w, _ := model.Make(c, 3)
	n, _ := New(c, w, Plan{Page: 2, Pages: 64, Rate: 3, Slots: 4})
	for i := range 200 {
		n.Begin(Task{Req: i, Prompt: []int{i % 7, i / 7 % 7, i % 5}, Most: 1 + i%5}, "")
		n.Begin(Task{Req: i, Try: 1, Prompt: []int{i % 6}, Most: 9}, "")
		n.Tick()
		n.Drop(i, 1)
		for _, x := range n.tasks[len(n.tasks):cap(n.tasks)] {
			if x.pages != nil || x.next != nil || x.answer != nil || len(x.view.Tokens) > 0 {
				t.Fatalf("a task that is gone is kept: %v", x)
			}
		}
		needed := 0
		for _, x := range n.tasks {
			needed += len(x.pages)
		}
		if _, count, _ := n.Counts(); count != needed {
			t.Fatalf("%d pages are needed, tasks have %d", count, needed)
		}
	}
}
