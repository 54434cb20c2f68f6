package saga_test

import (
	"math"
	"testing"

	"saga/api"
)

func TestReplyErrors(t *testing.T) {
	p := lines(line{good(7, 1), no(api.ErrId)}, line{good(7, 0), no(api.ErrId)}, line{start(7), ok}, line{good(6, 1), no(api.ErrId)}, line{good(math.MinInt, 1), no(api.ErrId)}, line{good(math.MaxInt, 1), no(api.ErrId)},
		line{good(7, 0), no(api.ErrKey)}, line{good(7, 1), no(api.ErrKey)}, line{bad(7, 0), no(api.ErrKey)}, line{bad(7, 1), no(api.ErrKey)}, line{pick(7), do(1, 0)})
	for _, key := range []int{math.MinInt, -1, 0, 2, 1<<32 + 1, math.MaxInt} {
		p.add(line{good(7, key), no(api.ErrKey)}, line{bad(7, key), no(api.ErrKey)})
	}
	p.expect(t, two(), 0, api.Instance{Id: 7, Mode: api.Forward, Keys: 1, Key: 1, Due: 5, Tries: 1})
}

// With no key out every key is the wrong one, in every mode, and 0 too.
func TestReplyNoKeyOut(t *testing.T) {
	d := two()
	d.Steps[0].Retries = 1
	waiting := lines(line{start(7), ok}, line{pick(7), do(1, 0)}, line{bad(7, 1), ok}, line{good(7, 1), no(api.ErrKey)}, line{good(7, 0), no(api.ErrKey)})
	waiting.expect(t, d, 0, api.Instance{Id: 7, Mode: api.Forward, Keys: 1, Tries: 1, Wake: 1})
	done := lines(line{start(7), ok}, line{pick(7), do(1, 0)}, line{good(7, 1), ok}, line{pick(7), do(2, 1)}, line{good(7, 2), ok}, line{good(7, 2), no(api.ErrKey)}, line{bad(7, 2), no(api.ErrKey)}, line{bad(7, 0), no(api.ErrKey)})
	done.expect(t, d, 0, api.Instance{Id: 7, Mode: api.Done, Settled: 2, Keys: 2, Ledger: []api.Entry{entry(1, 0, 1), entry(1, 1, 2)}})
	d.Steps[0].Retries = 0
	undone := lines(line{start(7), ok}, line{pick(7), do(1, 0)}, line{bad(7, 1), ok}, line{good(7, 1), no(api.ErrKey)}, line{good(7, 0), no(api.ErrKey)})
	undone.expect(t, d, 0, api.Instance{Id: 7, Mode: api.Undone, Keys: 1})
	stuck := lines(line{start(7), ok}, line{pick(7), do(1, 0)}, line{good(7, 1), ok}, line{pick(7), do(2, 1)}, line{bad(7, 2), ok}, line{pick(7), undo(3, 0)}, line{bad(7, 3), ok}, line{good(7, 3), no(api.ErrKey)}, line{good(7, 0), no(api.ErrKey)})
	stuck.expect(t, d, 0, api.Instance{Id: 7, Mode: api.Back, Stuck: true, Settled: 1, Keys: 3, Tries: 1, Ledger: []api.Entry{entry(1, 0, 1)}})
}

func TestAnythingButOneIsAFailure(t *testing.T) {
	for _, b := range []int{math.MinInt, -1, 0, 2, 257, 1<<32 + 1, math.MaxInt} {
		p := lines(line{start(7), ok}, line{pick(7), do(1, 0)}, line{api.Cmd{Kind: api.Reply, Inst: 7, A: 1, B: b}, ok})
		p.expect(t, two(), 0, api.Instance{Id: 7, Mode: api.Undone, Keys: 1})
	}
}

// With r Retries a step is tried r + 1 times; the waits are 1, 2 and 4.
func TestRetries(t *testing.T) {
	for retries := range api.MaxRetries + 1 {
		d := steps(2, api.Step{Undo: true, Timeout: 5, Retries: retries})
		p := lines(line{tick(10), ok}, line{start(7), ok})
		clock, pause := 10, 1
		for k := 1; k <= retries; k++ {
			p.add(line{pick(7), do(k, 0)}, line{tick(2), ok}, line{bad(7, k), ok}, line{pick(7), no(api.ErrWait)})
			clock += 2
			p.expect(t, d, clock, api.Instance{Id: 7, Mode: api.Forward, Keys: k, Tries: k, Wake: clock + pause})
			p.wait(pause - 1)
			p.add(line{pick(7), no(api.ErrWait)}, line{tick(1), ok})
			clock += pause
			pause *= 2
		}
		p.add(line{pick(7), do(retries+1, 0)}, line{tick(2), ok}, line{bad(7, retries+1), ok}, line{pick(7), no(api.ErrOver)})
		p.expect(t, d, clock+2, api.Instance{Id: 7, Mode: api.Undone, Keys: retries + 1, Wake: clock + 2})
	}
}

// Asking again for a key that is out is no new try.
func TestAskedAgainIsNoTry(t *testing.T) {
	d := steps(1, api.Step{Undo: true, Timeout: 5, Retries: 1})
	p := lines(line{start(7), ok}, line{pick(7), do(1, 0)}, line{tick(5), ok}, line{pick(7), do(1, 0)}, line{tick(5), ok}, line{pick(7), do(1, 0)}, line{bad(7, 1), ok})
	p.expect(t, d, 10, api.Instance{Id: 7, Mode: api.Forward, Keys: 1, Tries: 1, Wake: 11})
}

// Tries begin anew with each step, and the keys go on.
func TestTriesBeginAnew(t *testing.T) {
	d := steps(2, api.Step{Undo: true, Timeout: 5, Retries: 1})
	p := lines(line{start(7), ok}, line{pick(7), do(1, 0)}, line{bad(7, 1), ok}, line{tick(1), ok}, line{pick(7), do(2, 0)}, line{good(7, 2), ok})
	ledger := []api.Entry{entry(1, 0, 2)}
	p.expect(t, d, 1, api.Instance{Id: 7, Mode: api.Forward, Settled: 1, Keys: 2, Wake: 1, Ledger: ledger})
	p.add(line{pick(7), do(3, 1)}, line{bad(7, 3), ok})
	p.expect(t, d, 1, api.Instance{Id: 7, Mode: api.Forward, Settled: 1, Keys: 3, Tries: 1, Wake: 2, Ledger: ledger})
	p.add(line{tick(1), ok}, line{pick(7), do(4, 1)}, line{bad(7, 4), ok})
	p.expect(t, d, 2, api.Instance{Id: 7, Mode: api.Back, Settled: 1, Keys: 4, Wake: 2, Ledger: ledger})
	p.add(line{pick(7), undo(5, 0)}, line{bad(7, 5), ok}, line{pick(7), no(api.ErrWait)}, line{tick(1), ok}, line{pick(7), undo(6, 0)}, line{bad(7, 6), ok}, line{pick(7), no(api.ErrStuck)})
	p.expect(t, d, 3, api.Instance{Id: 7, Mode: api.Back, Stuck: true, Settled: 1, Keys: 6, Tries: 2, Wake: 3, Ledger: ledger})
}

// The Retries are those of the next step, on the way back too.
func TestRetriesOfTheNextStep(t *testing.T) {
	d := two()
	d.Steps[0].Retries = 1
	p := lines(line{start(7), ok}, line{pick(7), do(1, 0)}, line{good(7, 1), ok}, line{pick(7), do(2, 1)}, line{tick(3), ok}, line{bad(7, 2), ok}, line{pick(7), undo(3, 0)}, line{bad(7, 3), ok})
	p.expect(t, d, 3, api.Instance{Id: 7, Mode: api.Back, Settled: 1, Keys: 3, Tries: 1, Wake: 4, Ledger: []api.Entry{entry(1, 0, 1)}})
}

func TestStuckIsForEver(t *testing.T) {
	p := lines(line{start(7), ok}, line{pick(7), do(1, 0)}, line{good(7, 1), ok}, line{pick(7), do(2, 1)}, line{tick(3), ok}, line{bad(7, 2), ok}, line{pick(7), undo(3, 0)}, line{tick(2), ok}, line{bad(7, 3), ok}, line{pick(7), no(api.ErrStuck)}, line{tick(100), ok}, line{pick(7), no(api.ErrStuck)})
	p.expect(t, two(), 105, api.Instance{Id: 7, Mode: api.Back, Stuck: true, Settled: 1, Keys: 3, Tries: 1, Wake: 3, Ledger: []api.Entry{entry(1, 0, 1)}})
}

// forwardTo settles n steps with the first n keys.
func forwardTo(n int) play {
	p := lines(line{start(7), ok})
	for k := range n {
		p.succeeding(7, k+1, k, do)
	}
	return p
}

func ledgerTo(n int, more ...api.Entry) []api.Entry {
	var l []api.Entry
	for k := range n {
		l = append(l, entry(1, k, k+1))
	}
	return append(l, more...)
}

// Every pivot, and every step that fails: up to the pivot itself it goes
// back, behind it it is stuck, and the pivot stands.
func TestPivot(t *testing.T) {
	for pivot := -1; pivot < api.MaxSteps; pivot++ {
		for fails := range api.MaxSteps {
			d := steps(6, api.Step{Undo: true, Timeout: 5})
			if pivot >= 0 {
				d.Steps[pivot].Pivot = true
			}
			p := forwardTo(fails)
			p.add(line{tick(1), ok}, line{pick(7), do(fails+1, fails)}, line{tick(1), ok}, line{bad(7, fails+1), ok})
			want := api.Instance{Id: 7, Mode: api.Back, Settled: fails, Keys: fails + 1, Wake: 2, Ledger: ledgerTo(fails)}
			if fails == 0 {
				want.Mode = api.Undone
			}
			if pivot >= 0 && pivot < fails {
				want.Mode, want.Stuck, want.Tries, want.Wake = api.Forward, true, 1, 0
			}
			p.expect(t, d, 2, want)
		}
	}
}

// All the way there and back, for every number of steps.
func TestThereAndBack(t *testing.T) {
	for n := 1; n <= api.MaxSteps; n++ {
		d := steps(n, api.Step{Undo: true, Timeout: 5})
		p := forwardTo(n)
		p.add(line{pick(7), no(api.ErrOver)})
		p.expect(t, d, 0, api.Instance{Id: 7, Mode: api.Done, Settled: n, Keys: n, Ledger: ledgerTo(n)})
		p = forwardTo(n - 1)
		p.add(line{pick(7), do(n, n-1)}, line{bad(7, n), ok})
		ledger := ledgerTo(n - 1)
		for k := n - 2; k >= 0; k-- {
			key := 2*n - 1 - k
			p.expect(t, d, 0, api.Instance{Id: 7, Mode: api.Back, Settled: k + 1, Keys: key - 1, Ledger: ledger})
			p.succeeding(7, key, k, undo)
			ledger = append(ledger, entry(3, k, key))
		}
		p.add(line{pick(7), no(api.ErrOver)})
		p.expect(t, d, 0, api.Instance{Id: 7, Mode: api.Undone, Keys: 2*n - 1, Ledger: ledger})
	}
}
