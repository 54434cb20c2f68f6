package saga_test

import (
	"math"
	"testing"

	"saga/api"
)

func quorum(n int) api.Def {
	d := two()
	d.Quorum = n
	return d
}

var abort = ask(7, api.Abort, 0, 4)

func TestNoSuchRequest(t *testing.T) {
	p := lines(line{approve(1, 1), no(api.ErrRequest)}, line{withdraw(1, 4), no(api.ErrRequest)}, line{start(7), ok}, line{abort, number(1)})
	for _, n := range []int{math.MinInt, math.MinInt + 1, -1, 0, 2, 40, 41, 257, 1<<32 + 1, math.MaxInt} {
		p.add(line{approve(n, 1), no(api.ErrRequest)}, line{withdraw(n, 4), no(api.ErrRequest)})
	}
	p.expectOne(t, quorum(1), 0, fresh(7), asked(1, abort, 10))
}

func TestApproveWho(t *testing.T) {
	p := lines(line{start(7), ok}, line{abort, number(1)})
	for _, who := range []int{math.MinInt, -1, 10, 256, 1<<32 + 1, math.MaxInt, 4} {
		p.add(line{approve(1, who), no(api.ErrWho)})
	}
	p.expectOne(t, quorum(3), 0, fresh(7), asked(1, abort, 10))
	p.add(line{approve(1, 9), ok}, line{approve(1, 9), no(api.ErrWho)}, line{approve(1, 0), ok}, line{approve(1, 9), no(api.ErrWho)}, line{approve(1, 0), no(api.ErrWho)}, line{approve(1, 4), no(api.ErrWho)})
	p.expectOne(t, quorum(3), 0, fresh(7), asked(1, abort, 10, 9, 0))
	p.add(line{approve(1, 5), ok})
	p.expectOne(t, quorum(3), 0, api.Instance{Id: 7, Mode: api.Undone}, closed(asked(1, abort, 10, 9, 0, 5)))
}

// Who approved one request may approve another, and make one.
func TestApproveApart(t *testing.T) {
	other := ask(7, api.Assume, 0, 5)
	p := lines(line{start(7), ok}, line{abort, number(1)}, line{other, number(2)}, line{approve(2, 4), ok}, line{approve(1, 5), ok}, line{approve(1, 6), ok})
	p.expectOne(t, quorum(3), 0, fresh(7), asked(1, abort, 10, 5, 6), asked(2, other, 10, 4))
	p.add(line{approve(2, 6), ok}, line{approve(2, 1), ok})
	p.expectOne(t, quorum(3), 0, api.Instance{Id: 7, Mode: api.Forward, Settled: 1, Ledger: []api.Entry{entry(2, 0, 2)}}, asked(1, abort, 10, 5, 6), closed(asked(2, other, 10, 4, 6, 1)))
}

func TestWithdraw(t *testing.T) {
	p := lines(line{start(7), ok}, line{abort, number(1)}, line{approve(1, 2), ok})
	for _, who := range []int{math.MinInt, -1, 0, 2, 3, 5, 9, 10, 1<<32 + 4, math.MaxInt} {
		p.add(line{withdraw(1, who), no(api.ErrWho)})
	}
	p.expectOne(t, quorum(2), 0, fresh(7), asked(1, abort, 10, 2))
	p.add(line{withdraw(1, 4), ok})
	p.expectOne(t, quorum(2), 0, fresh(7), closed(asked(1, abort, 10, 2)))
	p.add(line{withdraw(1, 4), no(api.ErrRequest)}, line{withdraw(1, 3), no(api.ErrRequest)}, line{approve(1, 3), no(api.ErrRequest)}, line{approve(1, 4), no(api.ErrRequest)})
	p.expectOne(t, quorum(2), 0, fresh(7), closed(asked(1, abort, 10, 2)))
}

// Only the one named is withdrawn.
func TestWithdrawOneOfTwo(t *testing.T) {
	p := lines(line{start(7), ok}, line{abort, number(1)}, line{abort, number(2)}, line{withdraw(2, 4), ok}, line{approve(2, 1), no(api.ErrRequest)}, line{approve(1, 1), ok})
	p.expectOne(t, quorum(1), 0, api.Instance{Id: 7, Mode: api.Undone}, closed(asked(1, abort, 10, 1)), closed(asked(2, abort, 10)))
}

// What can no longer be carried out can still be withdrawn.
func TestWithdrawInAnyState(t *testing.T) {
	p := lines(line{start(7), ok}, line{abort, number(1)}, line{pick(7), do(1, 0)}, line{bad(7, 1), ok}, line{approve(1, 1), no(api.ErrState)}, line{withdraw(1, 4), ok}, line{approve(1, 1), no(api.ErrRequest)})
	p.expectOne(t, quorum(1), 0, api.Instance{Id: 7, Mode: api.Undone, Keys: 1}, closed(asked(1, abort, 10)))
}

func TestCarriedOutIsClosed(t *testing.T) {
	for n := range api.MaxQuorum + 1 {
		p := lines(line{start(7), ok}, line{abort, number(1)})
		r := closed(asked(1, abort, 10))
		for who := range n {
			p.add(line{approve(1, who), ok})
			r.By = append(r.By, who)
		}
		p.add(line{approve(1, 9), no(api.ErrRequest)}, line{approve(1, 0), no(api.ErrRequest)}, line{approve(1, 4), no(api.ErrRequest)}, line{approve(1, 10), no(api.ErrRequest)}, line{withdraw(1, 4), no(api.ErrRequest)}, line{withdraw(1, 5), no(api.ErrRequest)})
		p.expectOne(t, quorum(n), 0, api.Instance{Id: 7, Mode: api.Undone}, r)
	}
}

// Until is the edge: one below it a request is open, at it it is too late.
func TestTooLate(t *testing.T) {
	for _, expiry := range []int{1, 2, 49, 50} {
		d := quorum(2)
		d.Expiry = expiry
		p := lines(line{tick(6), ok}, line{start(7), ok}, line{abort, number(1)}, line{approve(1, 1), ok})
		p.wait(expiry - 1)
		r := asked(1, abort, 6+expiry, 1)
		p.expectOne(t, d, 5+expiry, fresh(7), r)
		in := p.with(line{approve(1, 2), ok})
		in.expectOne(t, d, 5+expiry, api.Instance{Id: 7, Mode: api.Undone, Wake: 5 + expiry}, closed(asked(1, abort, 6+expiry, 1, 2)))
		in = p.with(line{withdraw(1, 4), ok})
		in.expectOne(t, d, 5+expiry, fresh(7), closed(r))
		p.add(line{tick(1), ok}, line{approve(1, 2), no(api.ErrRequest)}, line{approve(1, 1), no(api.ErrRequest)}, line{approve(1, 4), no(api.ErrRequest)}, line{withdraw(1, 4), no(api.ErrRequest)}, line{withdraw(1, 5), no(api.ErrRequest)})
		p.expectOne(t, d, 6+expiry, fresh(7), r)
		p.add(line{tick(100), ok}, line{approve(1, 2), no(api.ErrRequest)}, line{withdraw(1, 4), no(api.ErrRequest)}, line{abort, number(2)}, line{approve(2, 2), ok})
		p.expectOne(t, d, 106+expiry, fresh(7), r, asked(2, abort, 106+2*expiry, 2))
	}
}

// At the last time there is, a request stays open for ever.
func TestAskAtTheLastTime(t *testing.T) {
	d := quorum(1)
	d.Expiry = 50
	var p play
	p.wait(10000)
	p.add(line{start(7), ok}, line{abort, number(1)}, line{tick(1), no(api.ErrClock)}, line{approve(1, 2), ok})
	p.expectOne(t, d, 10000, api.Instance{Id: 7, Mode: api.Undone, Wake: 10000}, closed(asked(1, abort, 10050, 2)))
}

// The last approval is refused while what is asked for cannot be asked for;
// those ahead of it are not; and it is not lost.
func TestApproveState(t *testing.T) {
	d := withPivot(0)
	d.Quorum = 2
	d.Expiry = 50
	retry := ask(7, api.Retry, 0, 4)
	p := forwardTo(1)
	p.add(line{pick(7), do(2, 1)}, line{bad(7, 2), ok}, line{retry, number(1)}, line{retry, number(2)}, line{approve(1, 1), ok}, line{approve(1, 2), ok})
	p.add(line{approve(2, 1), ok}, line{approve(2, 2), no(api.ErrState)}, line{approve(2, 3), no(api.ErrState)}, line{approve(2, 1), no(api.ErrWho)}, line{approve(2, 4), no(api.ErrWho)}, line{approve(2, 10), no(api.ErrWho)}, line{approve(2, -1), no(api.ErrWho)}, line{approve(3, 2), no(api.ErrRequest)})
	p.expectOne(t, d, 0, api.Instance{Id: 7, Mode: api.Forward, Settled: 1, Keys: 2, Ledger: ledgerTo(1)}, closed(asked(1, retry, 50, 1, 2)), asked(2, retry, 50, 1))
	p.add(line{pick(7), do(3, 1)}, line{approve(2, 2), no(api.ErrState)}, line{tick(4), ok}, line{bad(7, 3), ok}, line{approve(2, 3), ok})
	p.expectOne(t, d, 4, api.Instance{Id: 7, Mode: api.Forward, Settled: 1, Keys: 3, Wake: 4, Ledger: ledgerTo(1)}, closed(asked(1, retry, 50, 1, 2)), closed(asked(2, retry, 50, 1, 3)))
}

// turn is something asked for in a play, and what then makes it impossible.
type turn struct {
	d    api.Def
	p    play
	c    api.Cmd
	then []line
}

func turns() []turn {
	begun, three := lines(line{start(7), ok}), forwardTo(3)
	failed := three.with(line{pick(7), do(4, 3)}, line{bad(7, 4), ok})
	five := steps(5, api.Step{Undo: true, Timeout: 5})
	five.Steps[3].Pivot = true
	return []turn{
		{withPivot(0), failed, ask(7, api.Retry, 0, 4), []line{{ask(7, api.Assume, 0, 5), number(2)}, {approve(2, 6), ok}}},
		{four(), three, ask(7, api.Assume, 0, 4), []line{{pick(7), do(4, 3)}, {bad(7, 4), ok}}},
		{four(), three, ask(7, api.Assume, 0, 4), []line{{pick(7), do(4, 3)}, {good(7, 4), ok}}},
		{four(), failed, ask(7, api.Waive, 0, 4), []line{{pick(7), undo(5, 2)}, {good(7, 5), ok}, {pick(7), undo(6, 1)}, {good(7, 6), ok}, {pick(7), undo(7, 0)}, {good(7, 7), ok}}},
		{four(), begun, ask(7, api.Abort, 0, 4), []line{{pick(7), do(1, 0)}, {bad(7, 1), ok}}},
		{withPivot(0), begun, ask(7, api.Abort, 0, 4), []line{{pick(7), do(1, 0)}, {good(7, 1), ok}}},
		{four(), three, ask(7, api.Rewind, 0, 4), []line{{pick(7), do(4, 3)}, {bad(7, 4), ok}}},
		{four(), three, ask(7, api.Rewind, 2, 4), []line{{ask(7, api.Rewind, 2, 5), number(2)}, {approve(2, 6), ok}, {pick(7), undo(4, 2)}, {good(7, 4), ok}}},
		{five, three, ask(7, api.Rewind, 2, 4), []line{{pick(7), do(4, 3)}, {good(7, 4), ok}}},
	}
}

func TestNoLongerAsThingsStand(t *testing.T) {
	for k, u := range turns() {
		u.d.Quorum = 1
		p := u.p.with(line{u.c, number(1)})
		p.add(u.then...)
		p.add(line{approve(1, 4), no(api.ErrWho)}, line{approve(1, 6), no(api.ErrState)}, line{approve(1, 7), no(api.ErrState)}, line{withdraw(1, 4), ok})
		p.expectAnswers(t, u.d)
		if t.Failed() {
			t.Fatalf("turn %d", k)
		}
	}
}

// A request is of its own instance.
func TestApproveOtherInstance(t *testing.T) {
	c := ask(8, api.Assume, 0, 4)
	p := lines(line{start(7), ok}, line{start(8), ok}, line{start(9), ok}, line{pick(7), do(1, 0)}, line{c, number(1)}, line{approve(1, 1), ok})
	p.expectWorld(t, quorum(1), api.World{Requests: []api.Request{closed(asked(1, c, 10, 1))},
		Instances: []api.Instance{{Id: 7, Mode: api.Forward, Keys: 1, Key: 1, Due: 5, Tries: 1}, {Id: 8, Mode: api.Forward, Settled: 1, Ledger: []api.Entry{entry(2, 0, 1)}}, fresh(9)}})
}

// Inst, B and Reason of APPROVE and WITHDRAW may be anything.
func TestApproveUnnamedFields(t *testing.T) {
	for _, n := range []int{math.MinInt, -1, 0, 8, 300, math.MaxInt} {
		a, b := approve(1, 1), withdraw(2, 4)
		for _, c := range []*api.Cmd{&a, &b} {
			c.Inst, c.B, c.Reason = n, n, "a reason that is longer than any may be"
		}
		p := lines(line{start(7), ok}, line{abort, number(1)}, line{abort, number(2)}, line{b, ok}, line{a, ok})
		p.expectOne(t, quorum(1), 0, api.Instance{Id: 7, Mode: api.Undone}, closed(asked(1, abort, 10, 1)), closed(asked(2, abort, 10)))
	}
}
