package script

import (
	"slices"

	"tiller/api"
	"tiller/greedy"
	"tiller/model"
	"tiller/router"
)

// nowhere is the place where none of those that ended is wrong.
const nowhere = -1

// judge is what those that ended are held against.
type judge struct {
	config  api.Config
	weights model.Weights
	asked   []Asked
	ended   []bool // of each that was asked: did it end ahead?
}

// Judge: what is wrong with a trace, by the model alone; and with which of those that ended.
func Judge(c api.Config, seed uint64, t Trace) (int, api.Errno) {
	weights, e := model.Make(c, seed)
	if e != api.OK {
		return nowhere, e
	}
	j := judge{config: c, weights: weights, asked: t.Asked, ended: make([]bool, len(t.Asked))}
	for i, x := range t.Ended {
		if e := j.next(x); e != api.OK {
			return i, e
		}
	}
	if t.Open != len(t.Asked)-len(t.Ended) { // a sum of Open and others may be more than an int holds
		return nowhere, api.ErrLen
	}
	return nowhere, api.OK
}

// next: the error of the next one that ended.
func (j *judge) next(x Ended) api.Errno {
	if x.Req < 0 || x.Req >= len(j.asked) {
		return api.ErrNone
	}
	if j.ended[x.Req] {
		return api.ErrThere
	}
	j.ended[x.Req] = true
	if x.End != router.Completed && x.End != router.Failed {
		return api.ErrKind
	}
	asked := j.asked[x.Req]
	if x.Event < asked.Event {
		return api.ErrLate
	}
	if x.End == router.Failed {
		return failed(x)
	}
	return j.completed(asked, x)
}

// failed: the error of one that failed.
func failed(x Ended) api.Errno {
	if len(x.Tokens) != 0 {
		return api.ErrForm
	}
	return api.OK
}

// completed: the error of one that was answered.
func (j *judge) completed(asked Asked, x Ended) api.Errno {
	answer, e := greedy.Run(j.config, j.weights, asked.Prompt, asked.Most)
	if e != api.OK {
		return e
	}
	if !slices.Equal(answer, x.Tokens) {
		return api.ErrSum
	}
	return api.OK
}
