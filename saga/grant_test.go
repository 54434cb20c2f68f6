package saga_test

import (
	"testing"

	"saga/api"
)

func TestRetryTriesAnew(t *testing.T) {
	d := withPivot(0)
	d.Steps[1].Retries = 1
	p := forwardTo(1)
	p.add(line{pick(7), do(2, 1)}, line{bad(7, 2), ok}, line{tick(1), ok}, line{pick(7), do(3, 1)}, line{bad(7, 3), ok}, line{tick(4), ok})
	p.expect(t, d, 5, api.Instance{Id: 7, Mode: api.Forward, Stuck: true, Settled: 1, Keys: 3, Tries: 2, Wake: 1, Ledger: ledgerTo(1)})
	retry := ask(7, api.Retry, 9, 0)
	p.add(line{retry, number(1)}, line{retry, no(api.ErrState)}, line{pick(7), do(4, 1)}, line{bad(7, 4), ok})
	p.expectOne(t, d, 5, api.Instance{Id: 7, Mode: api.Forward, Settled: 1, Keys: 4, Tries: 1, Wake: 6, Ledger: ledgerTo(1)}, closed(asked(1, retry, 15)))
	p.add(line{tick(1), ok}, line{pick(7), do(5, 1)}, line{bad(7, 5), ok}, line{pick(7), no(api.ErrStuck)})
	p.expectOne(t, d, 6, api.Instance{Id: 7, Mode: api.Forward, Stuck: true, Settled: 1, Keys: 5, Tries: 2, Wake: 6, Ledger: ledgerTo(1)}, closed(asked(1, retry, 15)))
}

// A RETRY on the way back keeps where it goes.
func TestRetryOnTheWayBack(t *testing.T) {
	rewind, retry := ask(7, api.Rewind, 1, 1), ask(7, api.Retry, 2, 2)
	p := forwardTo(3)
	p.add(line{rewind, number(1)}, line{tick(2), ok}, line{pick(7), undo(4, 2)}, line{bad(7, 4), ok})
	p.expectOne(t, four(), 2, api.Instance{Id: 7, Mode: api.Back, Stuck: true, Settled: 3, Target: 1, Resume: true, Keys: 4, Tries: 1, Ledger: ledgerTo(3)}, closed(asked(1, rewind, 10)))
	p.add(line{tick(2), ok}, line{retry, number(2)})
	p.expectOne(t, four(), 4, api.Instance{Id: 7, Mode: api.Back, Settled: 3, Target: 1, Resume: true, Keys: 4, Wake: 4, Ledger: ledgerTo(3)}, closed(asked(1, rewind, 10)), closed(asked(2, retry, 14)))
	p.add(line{pick(7), undo(5, 2)})
	p.expectAnswers(t, four())
}

// A job can be assumed whole, step by step, pivot and all.
func TestAssumeAll(t *testing.T) {
	d := withPivot(1)
	p := lines(line{start(7), ok}, line{tick(2), ok})
	want := fresh(7)
	want.Wake = 2
	var requests []api.Request
	for n := 1; n <= 4; n++ {
		c := ask(7, api.Assume, n, n)
		p.add(line{c, number(n)})
		requests = append(requests, closed(asked(n, c, 12)))
		want.Settled = n
		want.Ledger = append(want.Ledger, entry(2, n-1, n))
		if n == 4 {
			want.Mode = api.Done
		}
		p.expectOne(t, d, 2, want, requests...)
	}
	p.add(line{pick(7), no(api.ErrOver)}, line{ask(7, api.Assume, 0, 1), no(api.ErrState)})
	p.expectAnswers(t, d)
}

// The key of what was assumed, waived or given up is no key any more.
func TestKeysThatAreDropped(t *testing.T) {
	p := lines(line{start(7), ok}, line{pick(7), do(1, 0)}, line{ask(7, api.Assume, 0, 1), number(1)}, line{good(7, 1), no(api.ErrKey)}, line{pick(7), do(2, 1)}, line{good(7, 1), no(api.ErrKey)}, line{good(7, 2), ok})
	p.add(line{pick(7), do(3, 2)}, line{ask(7, api.Rewind, 1, 1), number(2)}, line{good(7, 3), no(api.ErrKey)}, line{pick(7), undo(4, 1)}, line{good(7, 3), no(api.ErrKey)}, line{ask(7, api.Waive, 0, 1), number(3)}, line{good(7, 4), no(api.ErrKey)})
	p.add(line{pick(7), do(5, 1)}, line{ask(7, api.Abort, 0, 1), number(4)}, line{good(7, 5), no(api.ErrKey)}, line{pick(7), undo(6, 0)}, line{good(7, 5), no(api.ErrKey)}, line{good(7, 6), ok}, line{pick(7), no(api.ErrOver)})
	p.expectAnswers(t, four())
	w := []api.Entry{entry(2, 0, 1), entry(1, 1, 2), entry(4, 1, 3), entry(3, 0, 6)}
	p.expectOne(t, four(), 0, api.Instance{Id: 7, Mode: api.Undone, Keys: 6, Ledger: w},
		closed(asked(1, ask(7, api.Assume, 0, 1), 10)), closed(asked(2, ask(7, api.Rewind, 1, 1), 10)), closed(asked(3, ask(7, api.Waive, 0, 1), 10)), closed(asked(4, ask(7, api.Abort, 0, 1), 10)))
}

// Without Resume the way back ends UNDONE, whether undone or waived.
func TestWaiveDownToNothing(t *testing.T) {
	d := steps(3, api.Step{Timeout: 5})
	p := forwardTo(2)
	p.add(line{pick(7), do(3, 2)}, line{bad(7, 3), ok}, line{tick(1), ok}, line{pick(7), no(api.ErrNoUndo)}, line{ask(7, api.Waive, 0, 1), number(1)})
	first := closed(asked(1, ask(7, api.Waive, 0, 1), 11))
	p.expectOne(t, d, 1, api.Instance{Id: 7, Mode: api.Back, Settled: 1, Keys: 3, Wake: 1, Ledger: ledgerTo(2, entry(4, 1, 1))}, first)
	p.add(line{ask(7, api.Waive, 8, 2), number(2)}, line{pick(7), no(api.ErrOver)}, line{ask(7, api.Waive, 0, 1), no(api.ErrState)})
	p.expectOne(t, d, 1, api.Instance{Id: 7, Mode: api.Undone, Keys: 3, Wake: 1, Ledger: ledgerTo(2, entry(4, 1, 1), entry(4, 0, 2))}, first, closed(asked(2, ask(7, api.Waive, 0, 2), 11)))
}

// A WAIVE frees an instance that is stuck on the way back.
func TestWaiveWhenStuck(t *testing.T) {
	p := forwardTo(2)
	p.add(line{pick(7), do(3, 2)}, line{bad(7, 3), ok}, line{pick(7), undo(4, 1)}, line{bad(7, 4), ok}, line{tick(3), ok}, line{pick(7), no(api.ErrStuck)}, line{ask(7, api.Waive, 0, 1), number(1)})
	p.expectOne(t, four(), 3, api.Instance{Id: 7, Mode: api.Back, Settled: 1, Keys: 4, Wake: 3, Ledger: ledgerTo(2, entry(4, 1, 1))}, closed(asked(1, ask(7, api.Waive, 0, 1), 13)))
	p.add(line{pick(7), undo(5, 0)}, line{good(7, 5), ok}, line{pick(7), no(api.ErrOver)})
	p.expectAnswers(t, four())
}

// Every pivot, every number of settled steps, every target: there and back,
// each step back undone or waived, and forward again from there.
func TestRewindAndComeBack(t *testing.T) {
	for pivot := -1; pivot < 6; pivot++ {
		d := steps(6, api.Step{Undo: true, Timeout: 5})
		if pivot >= 0 {
			d.Steps[pivot].Pivot = true
		}
		for settled := range 6 {
			for target := -1; target <= 6; target++ {
				above := pivot < 0 || pivot >= settled || target > pivot
				if target < 0 || target >= settled || !above {
					p := forwardTo(settled)
					p.add(line{ask(7, api.Rewind, target, 1), no(api.ErrState)})
					p.expect(t, d, 0, api.Instance{Id: 7, Mode: api.Forward, Settled: settled, Keys: settled, Ledger: ledgerTo(settled)})
					continue
				}
				comeBack(t, d, settled, target, false)
				comeBack(t, d, settled, target, true)
			}
		}
	}
}

func comeBack(t *testing.T, d api.Def, settled, target int, waived bool) {
	t.Helper()
	c := ask(7, api.Rewind, target, 1)
	p := forwardTo(settled)
	p.add(line{c, number(1)}, line{ask(7, api.Rewind, target, 1), no(api.ErrState)}, line{ask(7, api.Abort, 0, 1), no(api.ErrState)})
	requests := []api.Request{closed(asked(1, c, 10))}
	want := api.Instance{Id: 7, Mode: api.Back, Settled: settled, Target: target, Resume: true, Keys: settled, Ledger: ledgerTo(settled)}
	for step := settled - 1; step >= target; step-- {
		p.expectOne(t, d, 0, want, requests...)
		want.Settled = step
		if waived {
			w := ask(7, api.Waive, target, 2)
			ref := len(requests) + 1
			p.add(line{w, number(ref)})
			requests = append(requests, closed(asked(ref, w, 10)))
			want.Ledger = append(want.Ledger, entry(4, step, ref))
			continue
		}
		want.Keys++
		p.succeeding(7, want.Keys, step, undo)
		want.Ledger = append(want.Ledger, entry(3, step, want.Keys))
	}
	want.Mode, want.Target, want.Resume = api.Forward, 0, false
	p.expectOne(t, d, 0, want, requests...)
	p.add(line{pick(7), do(want.Keys+1, target)})
	p.expectAnswers(t, d)
}

// Once it is forward again, failing for good sends it back to 0 for good.
func TestFailAfterComingBack(t *testing.T) {
	p := forwardTo(2)
	p.add(line{ask(7, api.Rewind, 1, 1), number(1)}, line{pick(7), undo(3, 1)}, line{good(7, 3), ok}, line{tick(2), ok}, line{pick(7), do(4, 1)}, line{bad(7, 4), ok})
	r := closed(asked(1, ask(7, api.Rewind, 1, 1), 10))
	ledger := ledgerTo(2, entry(3, 1, 3))
	p.expectOne(t, four(), 2, api.Instance{Id: 7, Mode: api.Back, Settled: 1, Keys: 4, Wake: 2, Ledger: ledger}, r)
	p.add(line{pick(7), undo(5, 0)}, line{good(7, 5), ok})
	p.expectOne(t, four(), 2, api.Instance{Id: 7, Mode: api.Undone, Keys: 5, Wake: 2, Ledger: append(ledger, entry(3, 0, 5))}, r)
}

// One rewind behind the other, and DONE in the end.
func TestRewindTwice(t *testing.T) {
	d := steps(2, api.Step{Undo: true, Timeout: 5})
	p := forwardTo(1)
	p.add(line{ask(7, api.Rewind, 0, 1), number(1)}, line{pick(7), undo(2, 0)}, line{good(7, 2), ok}, line{ask(7, api.Rewind, 0, 1), no(api.ErrState)}, line{pick(7), do(3, 0)}, line{good(7, 3), ok})
	p.add(line{ask(7, api.Rewind, 0, 1), number(2)}, line{ask(7, api.Waive, 0, 1), number(3)}, line{ask(7, api.Assume, 0, 1), number(4)}, line{pick(7), do(4, 1)}, line{good(7, 4), ok}, line{pick(7), no(api.ErrOver)})
	p.expectAnswers(t, d)
	p.expectOne(t, d, 0, api.Instance{Id: 7, Mode: api.Done, Settled: 2, Keys: 4, Ledger: []api.Entry{entry(1, 0, 1), entry(3, 0, 2), entry(1, 0, 3), entry(4, 0, 3), entry(2, 0, 4), entry(1, 1, 4)}},
		closed(asked(1, ask(7, api.Rewind, 0, 1), 10)), closed(asked(2, ask(7, api.Rewind, 0, 1), 10)), closed(asked(3, ask(7, api.Waive, 0, 1), 10)), closed(asked(4, ask(7, api.Assume, 0, 1), 10)))
}
