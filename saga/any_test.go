package saga_test

import (
	"math"
	"math/rand"
	"slices"
	"strings"
	"testing"

	"saga/api"
	"saga/saga"
)

var edges = []int{math.MinInt, math.MinInt + 1, math.MinInt32, -256, -2, -1, 0, 1, 2, 3, 4, 5, 6, 7, 8, 9, 10, 20, 30, 31, 40, 50, 99, 100, 101, 255, 256, 10000, 10001, math.MaxInt32, 1 << 32, math.MaxInt - 1, math.MaxInt}

func anyNumber(r *rand.Rand) int { return edges[r.Intn(len(edges))] }

func anyLength(r *rand.Rand) int { return []int{0, 1, 9, 10, 11, 128, 300}[r.Intn(7)] }

func anyCmd(r *rand.Rand) api.Cmd {
	reason := strings.Repeat("\x00\xff", r.Intn(1+anyLength(r)))
	return api.Cmd{Kind: anyNumber(r), Inst: anyNumber(r), A: anyNumber(r), B: anyNumber(r), Who: anyNumber(r), Reason: reason, Dry: r.Intn(2) == 0}
}

func anyDef(r *rand.Rand) api.Def {
	d := api.Def{Quorum: anyNumber(r), Expiry: anyNumber(r)}
	for range r.Intn(9) {
		d.Steps = append(d.Steps, api.Step{Undo: r.Intn(2) == 0, Pivot: r.Intn(4) == 0, Retries: anyNumber(r), Timeout: anyNumber(r)})
	}
	return d
}

// likelyDef is always a definition.
func likelyDef(r *rand.Rand) api.Def {
	d := api.Def{Quorum: r.Intn(4), Expiry: 1 + r.Intn(50)}
	for range 1 + r.Intn(6) {
		d.Steps = append(d.Steps, api.Step{Undo: r.Intn(8) > 0, Retries: r.Intn(4), Timeout: 1 + r.Intn(20)})
	}
	pivot := r.Intn(12)
	if pivot < len(d.Steps) {
		d.Steps[pivot].Pivot = true
	}
	return d
}

// likelyCmd is one from START to WITHDRAW that has a fair chance.
func likelyCmd(r *rand.Rand) api.Cmd {
	switch r.Intn(16) {
	case 0:
		return start(r.Intn(6))
	case 1, 2, 3, 4:
		return pick(r.Intn(4))
	case 5, 6, 7:
		return api.Cmd{Kind: api.Reply, Inst: r.Intn(4), A: 1 + r.Intn(8), B: r.Intn(2)}
	case 8:
		return tick(1 + r.Intn(6))
	case 9, 10:
		return ask(r.Intn(4), 1+r.Intn(5), r.Intn(5), r.Intn(10))
	case 11, 12, 13:
		return approve(1+r.Intn(12), r.Intn(10))
	case 14:
		return withdraw(1+r.Intn(12), r.Intn(10))
	}
	return anyCmd(r)
}

func likelyScript(r *rand.Rand, n int) []api.Cmd {
	var s []api.Cmd
	for range n {
		s = append(s, likelyCmd(r))
	}
	return s
}

func TestAnyNumbers(t *testing.T) {
	r := rand.New(rand.NewSource(1))
	for range 3000 {
		d := anyDef(r)
		if r.Intn(2) == 0 {
			d = likelyDef(r)
		}
		var s []api.Cmd
		for range r.Intn(40) {
			s = append(s, anyCmd(r))
		}
		e := saga.Check(d)
		a, f := saga.Run(d, s)
		w, g := saga.State(d, s)
		j, safe, h := saga.Journal(d, s)
		v, read, i := saga.Recover(d, j+"\x05")
		if f != e || g != e || h != e || i != e {
			t.Fatalf("P4 to P7: %+v: Check %d, Run %d, State %d, Journal %d, Recover %d", d, e, f, g, h, i)
		}
		if e != api.OK && (len(a) != 0 || text(w) != text(api.World{}) || j != "" || safe != 0 || text(v) != text(w) || read != 0) {
			t.Fatalf("P1: %+v: %d: %v, %+v, %q, %d, %+v, %d", d, e, a, w, j, safe, v, read)
		}
		if text(v) != text(w) || read != len(j) || safe < 0 || safe > len(j) {
			t.Fatalf("P7: %+v, %+v: %d of %d read, %d safe:\n%+v, want\n%+v", d, s, read, len(j), safe, v, w)
		}
		if e == api.OK && len(a) != len(s) {
			t.Fatalf("P4: %d answers to %d commands", len(a), len(s))
		}
	}
}

// A long script ends, and costs no more than its length.
func TestLongScript(t *testing.T) {
	r := rand.New(rand.NewSource(2))
	s := likelyScript(r, 300000)
	a, e := saga.Run(two(), s)
	w, f := saga.State(two(), s)
	if e != api.OK || f != api.OK || len(a) != len(s) || w.Clock > api.MaxClock {
		t.Errorf("P1: %d, %d, %d answers, clock %d", e, f, len(a), w.Clock)
	}
}

// Worlds that come about hold together, and what is refused changes nothing
// and answers nothing but its Code.
func TestEveryWorld(t *testing.T) {
	r := rand.New(rand.NewSource(3))
	for range 150 {
		d := likelyDef(r)
		s := likelyScript(r, 120)
		if r.Intn(2) == 0 {
			s = crashing(r, d, 120)
		}
		answers, _ := saga.Run(d, s)
		before := api.World{}
		for k := range s {
			w, e := saga.State(d, s[:k+1])
			if e != api.OK {
				t.Fatalf("P5: %d", e)
			}
			a := answers[k]
			if a.Code != api.OK && (a != no(a.Code) || text(w) != text(before)) {
				t.Fatalf("P4, P5: %+v is refused: %+v, and makes\n%+v of\n%+v", s[k], a, w, before)
			}
			expectWhole(t, d, w)
			before = w
		}
	}
}

func expectWhole(t *testing.T, d api.Def, w api.World) {
	t.Helper()
	if w.Clock < 0 || w.Clock > api.MaxClock || len(w.Instances) > api.MaxInstances || len(w.Requests) > api.MaxAsks {
		t.Fatalf("P5: %+v", w)
	}
	for k, i := range w.Instances {
		for _, j := range w.Instances[:k] {
			if i.Id == j.Id {
				t.Fatalf("P5: the Id %d twice", i.Id)
			}
		}
		if !holds(d, i) {
			t.Fatalf("P5: %+v", i)
		}
		if settled := ledgerSettles(t, d, i.Ledger); settled != i.Settled {
			t.Fatalf("P5: Settled %d, by the ledger %d", i.Settled, settled)
		}
		if !refersRightly(w, i) {
			t.Fatalf("P5: %+v", w)
		}
	}
	for k, r := range w.Requests {
		if r.Number != k+1 || !isRequest(d, w, r) {
			t.Fatalf("P5: %+v", r)
		}
	}
}

// refersRightly tells whether what a ledger refers to is there: keys that
// were given out, and requests that were carried out, each once.
func refersRightly(w api.World, i api.Instance) bool {
	keys, requests := map[int]bool{}, map[int]bool{}
	for _, e := range i.Ledger {
		if e.Kind == api.EntryDo || e.Kind == api.EntryUndo {
			if e.Ref < 1 || e.Ref > i.Keys || keys[e.Ref] {
				return false
			}
			keys[e.Ref] = true
			continue
		}
		if e.Ref < 1 || e.Ref > len(w.Requests) || requests[e.Ref] {
			return false
		}
		requests[e.Ref] = true
		r := w.Requests[e.Ref-1]
		what := map[int]int{api.EntryAssume: api.Assume, api.EntryWaive: api.Waive}[e.Kind]
		if r.Inst != i.Id || r.What != what || !r.Closed {
			return false
		}
	}
	return true
}

func isRequest(d api.Def, w api.World, r api.Request) bool {
	for k, who := range r.By {
		if who < 0 || who > api.MaxWho || who == r.Who || slices.Contains(r.By[:k], who) {
			return false
		}
	}
	switch {
	case !slices.ContainsFunc(w.Instances, func(i api.Instance) bool { return i.Id == r.Inst }):
	case r.What < api.Retry || r.What > api.Rewind:
	case r.What != api.Rewind && r.Target != 0:
	case r.Target < 0 || r.Target >= len(d.Steps):
	case r.Who < 0 || r.Who > api.MaxWho:
	case r.Reason == "" || len(r.Reason) > api.MaxReason:
	case r.Until < d.Expiry || r.Until > w.Clock+d.Expiry:
	case len(r.By) > d.Quorum || len(r.By) == d.Quorum && !r.Closed:
	default:
		return true
	}
	return false
}

func holds(d api.Def, i api.Instance) bool {
	over := i.Mode == api.Done || i.Mode == api.Undone
	switch {
	case i.Id < 0 || i.Id > api.MaxId:
	case i.Mode < api.Forward || i.Mode > api.Undone:
	case i.Keys < 0 || i.Keys > api.MaxKeys:
	case i.Key != 0 && i.Key != i.Keys:
	case (i.Key == 0) != (i.Due == 0):
	case i.Key != 0 && i.Tries == 0:
	case over && (i.Key != 0 || i.Stuck || i.Tries != 0):
	case i.Stuck && i.Key != 0:
	case i.Mode != api.Back && (i.Target != 0 || i.Resume):
	case i.Mode == api.Back && i.Settled <= i.Target:
	case (i.Mode == api.Done) != (i.Settled == len(d.Steps)):
	case i.Mode == api.Undone && i.Settled != 0:
	default:
		return true
	}
	return false
}

func ledgerSettles(t *testing.T, d api.Def, ledger []api.Entry) int {
	t.Helper()
	settled := 0
	for _, e := range ledger {
		if e.Kind == api.EntryDo || e.Kind == api.EntryAssume {
			if e.Step != settled {
				t.Fatalf("P8: %+v", ledger)
			}
			settled++
			continue
		}
		settled--
		if e.Step != settled || settled < 0 || d.Steps[settled].Pivot {
			t.Fatalf("P8: %+v", ledger)
		}
	}
	return settled
}
