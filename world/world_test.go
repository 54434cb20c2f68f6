package world

import (
	"fmt"
	"testing"

	"saga/api"
)

func TestEveryStepNumber(t *testing.T) {
	d := api.Def{Steps: []api.Step{{Timeout: 5}, {Timeout: 6}}}
	for number, timeout := range map[int]int{-1 << 63: 0, -1: 0, 0: 5, 1: 6, 2: 0, 1<<63 - 1: 0} {
		if s := step(d, number); s.Timeout != timeout {
			t.Errorf("P1: step %d: %+v", number, s)
		}
	}
}

// roomy is a world whose lists have spare room.
func roomy() api.World {
	return api.World{
		Clock:     5,
		Instances: []api.Instance{{Id: 7, Ledger: []api.Entry{{Kind: 1}, {}}[:1]}, {Id: 8}, {}}[:2],
		Requests:  []api.Request{{Number: 1, By: []int{4, 0}[:1]}, {Number: 2}, {}}[:2],
	}
}

// spoil writes into all lists of a world, and into their spare room.
func spoil(w api.World) {
	for _, i := range w.Instances {
		fill(i.Ledger, api.Entry{Kind: 77})
	}
	for _, r := range w.Requests {
		fill(r.By, 77)
	}
	fill(w.Instances, api.Instance{Id: 77})
	fill(w.Requests, api.Request{Number: 77})
}

func fill[T any](l []T, x T) {
	l = l[:cap(l)]
	for k := range l {
		l[k] = x
	}
}

// all shows a world with the spare room of its lists.
func all(w api.World) string {
	s := fmt.Sprint(w.Clock, w.Instances[:cap(w.Instances)], w.Requests[:cap(w.Requests)])
	for _, i := range w.Instances {
		s += fmt.Sprint(i.Ledger[:cap(i.Ledger)])
	}
	for _, r := range w.Requests {
		s += fmt.Sprint(r.By[:cap(r.By)])
	}
	return s
}

func TestCopySharesNoList(t *testing.T) {
	w := roomy()
	c := Copy(&w)
	if fmt.Sprint(c) != fmt.Sprint(w) {
		t.Fatalf("P5: %+v, want %+v", c, w)
	}
	spoil(c)
	if all(w) != all(roomy()) {
		t.Errorf("P2: writing into the copy makes %s, want %s", all(w), all(roomy()))
	}
	c = Copy(&w)
	before := all(c)
	spoil(w)
	if all(c) != before {
		t.Errorf("P2: writing into the world makes %s of its copy, want %s", all(c), before)
	}
}
