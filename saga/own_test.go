package saga_test

import (
	"math/rand"
	"slices"
	"testing"

	"saga/api"
	"saga/saga"
)

// roomy copies a list into one with spare room that is filled with x.
func roomy[T any](l []T, x T) []T {
	r := append(slices.Clone(l), slices.Repeat([]T{x}, 8)...)
	return r[:len(l)]
}

// whole is a list with its spare room.
func whole[T any](l []T) []T { return l[:cap(l)] }

func fill[T any](l []T, x T) {
	l = whole(l)
	for k := range l {
		l[k] = x
	}
}

// all is what all the calls answer.
func all(d api.Def, s []api.Cmd) string {
	a, e := saga.Run(d, s)
	w, f := saga.State(d, s)
	j, n, g := saga.Journal(d, s)
	v, m, h := saga.Recover(d, j+j)
	return text(saga.Check(d)) + text(a) + text(e) + text(w) + text(f) + j + text(n) + text(g) + text(v) + text(m) + text(h)
}

// Equal arguments are answered alike, whatever was called between.
func TestSameAgain(t *testing.T) {
	r := rand.New(rand.NewSource(4))
	for range 100 {
		d, other := likelyDef(r), likelyDef(r)
		s, others := crashing(r, d, 60), crashing(r, other, 60)
		first := all(d, s)
		all(other, others)
		all(api.Def{}, s)
		if again := all(d, slices.Clone(s)); again != first {
			t.Fatalf("P2:\n%s, and then\n%s", first, again)
		}
	}
}

// The answers to the beginning of a script are the beginning of its answers.
func TestAnswersOfBeginnings(t *testing.T) {
	r := rand.New(rand.NewSource(5))
	d := likelyDef(r)
	s := crashing(r, d, 100)
	whole, _ := saga.Run(d, s)
	for k := range s {
		a, _ := saga.Run(d, s[:k])
		if !slices.Equal(a, whole[:k]) {
			t.Fatalf("P2, P4: %v, want %v", a, whole[:k])
		}
	}
}

func TestNothingHandedInIsWritten(t *testing.T) {
	r := rand.New(rand.NewSource(6))
	for range 100 {
		d := likelyDef(r)
		d.Steps = roomy(d.Steps, api.Step{Retries: 77})
		s := roomy(crashing(r, d, 60), api.Cmd{Kind: 77})
		before := text(whole(d.Steps)) + text(whole(s))
		all(d, s)
		bad := d
		bad.Expiry = 0
		all(bad, s)
		if after := text(whole(d.Steps)) + text(whole(s)); after != before {
			t.Fatalf("P2: handed in\n%s, and then it was\n%s", before, after)
		}
	}
}

// busy is a script that makes four ledgers, and eight requests with one to
// three approvals.
func busy() []api.Cmd {
	s := []api.Cmd{start(0), start(1), start(2), start(3)}
	for key := 1; key <= 5; key++ {
		for id := range 4 {
			s = append(s, pick(id), good(id, key))
		}
	}
	for n := 1; n <= 8; n++ {
		s = append(s, ask(n%4, api.Assume, 0, 9), approve(n, 1))
	}
	for n := 1; n <= 6; n++ {
		s = append(s, approve(n, 2))
	}
	return append(s, approve(1, 3), approve(2, 3))
}

func busyDef() api.Def {
	d := steps(6, api.Step{Undo: true, Timeout: 5})
	d.Quorum = 3
	return d
}

// busyWorlds is the world of busy, each time as it comes out of another call.
func busyWorlds(d api.Def, s []api.Cmd) []api.World {
	plain, _ := saga.State(d, s)
	crashed, _ := saga.State(d, append(slices.Clone(s), crash(1<<40)))
	part := slices.Concat(s[:30], []api.Cmd{crash(1 << 40), crash(0)}, s[30:])
	goneOn, _ := saga.State(d, part)
	j, _, _ := saga.Journal(d, s)
	read, _, _ := saga.Recover(d, j)
	return []api.World{plain, crashed, goneOn, read}
}

func fillWorld(w api.World) {
	for k := range w.Instances {
		fill(w.Instances[k].Ledger, api.Entry{Kind: 77})
	}
	for k := range w.Requests {
		fill(w.Requests[k].By, 77)
	}
	fill(w.Instances, api.Instance{Id: 77})
	fill(w.Requests, api.Request{Number: 77})
}

func TestListsOfTheirOwn(t *testing.T) {
	d := busyDef()
	d.Steps = roomy(d.Steps, api.Step{Retries: 77})
	s := roomy(busy(), api.Cmd{Kind: 77})
	handedIn := text(whole(d.Steps)) + text(whole(s))
	a, _ := saga.Run(d, s)
	b, _ := saga.Run(d, s)
	worlds, others := busyWorlds(d, s), busyWorlds(d, s)
	answers, world := text(a), text(worlds[0])
	fill(b, api.Answer{Number: 77})
	for _, w := range others {
		fillWorld(w)
	}
	a2, _ := saga.Run(d, s)
	for _, w := range slices.Concat(worlds, busyWorlds(d, s)) {
		if text(w) != world {
			t.Errorf("P2: writing into what came out shows in\n%+v, want\n%s", w, world)
		}
	}
	if text(a) != answers || text(a2) != answers || text(whole(d.Steps))+text(whole(s)) != handedIn {
		t.Errorf("P2: writing into what came out shows elsewhere")
	}
}

// The lists inside one world share no room with each other.
func TestLedgersAndApprovalsOfTheirOwn(t *testing.T) {
	d := busyDef()
	for k := range 4 + 8 {
		for n, w := range busyWorlds(d, busy()) {
			want := busyWorlds(d, busy())[n]
			if len(w.Instances) != 4 || len(w.Requests) != 8 {
				t.Fatalf("P5: %+v", w)
			}
			if k < 4 {
				fill(w.Instances[k].Ledger, api.Entry{Kind: 77})
				w.Instances[k].Ledger = nil
				want.Instances[k].Ledger = nil
			} else {
				fill(w.Requests[k-4].By, 77)
				w.Requests[k-4].By = nil
				want.Requests[k-4].By = nil
			}
			if text(w) != text(want) {
				t.Errorf("P2: writing into list %d of world %d makes\n%+v, want\n%+v", k, n, w, want)
			}
		}
	}
}
