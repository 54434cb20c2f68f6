package world

import (
	"fmt"
	"testing"

	"saga/api"
)

// No command of saga sends an instance back to a Target with Resume as yet;
// the way back must know both all the same.
func TestComeBack(t *testing.T) {
	d := api.Def{Steps: []api.Step{{Undo: true, Timeout: 5}, {Undo: true, Timeout: 5}, {Undo: true, Timeout: 5}}, Expiry: 10}
	for _, c := range []struct{ target, resume, keys, mode int }{
		{1, 0, 1, api.Undone}, {1, 1, 1, api.Forward}, {0, 1, 1, api.Back}, {0, 1, 2, api.Forward}, {0, 0, 2, api.Undone},
	} {
		i := api.Instance{Id: 7, Mode: api.Back, Settled: 2, Target: c.target, Resume: c.resume == 1}
		w := api.World{Clock: 4, Instances: []api.Instance{i}}
		want := api.Instance{Id: 7, Mode: c.mode, Settled: 2 - c.keys, Keys: c.keys, Wake: 4}
		if c.mode == api.Back {
			want.Target, want.Resume = c.target, c.resume == 1
		}
		for k := 1; k <= c.keys; k++ {
			Do(d, &w, api.Cmd{Kind: api.Pick, Inst: 7})
			Do(d, &w, api.Cmd{Kind: api.Reply, Inst: 7, A: k, B: 1})
			want.Ledger = append(want.Ledger, api.Entry{Kind: api.EntryUndo, Step: 2 - k, Ref: k})
		}
		if got := fmt.Sprintf("%+v", w.Instances[0]); got != fmt.Sprintf("%+v", want) {
			t.Errorf("P5: %+v: %s, want %+v", c, got, want)
		}
	}
}

func TestEveryStepNumber(t *testing.T) {
	d := api.Def{Steps: []api.Step{{Timeout: 5}, {Timeout: 6}}}
	for number, timeout := range map[int]int{-1 << 63: 0, -1: 0, 0: 5, 1: 6, 2: 0, 1<<63 - 1: 0} {
		if s := step(d, number); s.Timeout != timeout {
			t.Errorf("P1: step %d: %+v", number, s)
		}
	}
}
