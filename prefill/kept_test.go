package prefill

import (
	"slices"
	"testing"

	"tiller/api"
	"tiller/model"
)

// No more is kept than the jobs that wait and the pages that are idle need: of a job that is done, and of a page that had to go, nothing stays.
func TestKept(t *testing.T) {
	c := api.Config{Vocab: 7, Dim: 2, Heads: 1, Hidden: 2, Layers: 1}
	w, _ := model.Make(c, 3)
	n, _ := New(c, w, Plan{Page: 2, Pages: 3, Rate: 128, Queue: 2})
	for i := range 200 {
		n.Ask(Job{Req: i, Prompt: []int{i % 7, i / 7 % 7, i % 5, i % 3, i % 2}, Most: 1})
		n.Ask(Job{Req: i, Try: 1, Prompt: []int{i % 6}, Most: 1})
		n.Tick()
		n.Tick()
		if len(n.jobs) != 0 || len(n.view.Tokens) != 0 || len(n.view.Cache.Keys) != 0 {
			t.Fatalf("nothing waits: %d jobs, a view of %v", len(n.jobs), n.view.Tokens)
		}
		if slices.ContainsFunc(n.jobs[:cap(n.jobs)], func(j Job) bool { return j.Prompt != nil }) {
			t.Fatal("the prompt of a job that is done is kept behind those that wait")
		}
		_, _, idle := n.Counts()
		if idle > 3 || len(n.shelf.blocks) != idle || n.shelf.rows.Count() != idle {
			t.Fatalf("%d idle pages, %d blocks, %d rows", idle, len(n.shelf.blocks), n.shelf.rows.Count())
		}
	}
}
