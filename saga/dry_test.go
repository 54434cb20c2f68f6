package saga_test

import (
	"math/rand"
	"testing"

	"saga/api"
	"saga/saga"
)

// wide is a play with every command from START to WITHDRAW, each answered
// with OK and refused, and a key that is asked for again.
func wide() play {
	p := lines(line{start(7), ok}, line{start(7), no(api.ErrId)}, line{pick(8), no(api.ErrId)}, line{pick(7), do(1, 0)}, line{pick(7), no(api.ErrBusy)}, line{tick(5), ok}, line{tick(0), no(api.ErrRange)}, line{pick(7), do(1, 0)})
	p.add(line{good(7, 2), no(api.ErrKey)}, line{good(7, 1), ok}, line{pick(7), do(2, 1)}, line{ask(7, api.Rewind, 0, 1), number(1)}, line{ask(7, api.Waive, 0, 1), no(api.ErrState)}, line{ask(7, api.Assume, 0, 2), number(2)}, line{ask(7, api.Abort, 0, 3), number(3)})
	p.add(line{approve(1, 1), no(api.ErrWho)}, line{approve(1, 2), ok}, line{withdraw(2, 1), no(api.ErrWho)}, line{withdraw(2, 2), ok}, line{withdraw(2, 2), no(api.ErrRequest)}, line{approve(1, 3), ok}, line{approve(1, 4), no(api.ErrRequest)})
	p.add(line{approve(3, 1), ok}, line{approve(3, 2), no(api.ErrState)}, line{pick(7), undo(3, 0)}, line{bad(7, 3), ok}, line{pick(7), no(api.ErrStuck)}, line{ask(7, api.Retry, 0, 1), number(4)})
	return p
}

// A Dry command ahead of each, and behind each: answered as if it were not
// Dry, and all else is as it would be without.
func TestDryAnywhere(t *testing.T) {
	d := quorum(2)
	p := wide()
	p.expectAnswers(t, d)
	w, _ := saga.State(d, p.cmds)
	for k, l := range p.pairs() {
		q := lines(p.pairs()[:k]...)
		before, _ := saga.State(d, q.cmds)
		q.add(line{dry(l.cmd), l.answer}, line{dry(l.cmd), l.answer})
		q.expectWorld(t, d, before)
		q.add(p.pairs()[k:]...)
		q.expectWorld(t, d, w)
	}
}

// Dry commands that would be answered with OK, from START to WITHDRAW.
func TestDryChangesNothing(t *testing.T) {
	p := lines(line{dry(start(7)), ok}, line{dry(start(7)), ok}, line{dry(pick(7)), no(api.ErrId)}, line{dry(tick(100)), ok}, line{dry(tick(100)), ok})
	p.expect(t, two(), 0)
	p.add(line{start(7), ok}, line{dry(start(7)), no(api.ErrId)}, line{dry(pick(7)), do(1, 0)}, line{dry(pick(7)), do(1, 0)}, line{dry(good(7, 1)), no(api.ErrKey)})
	p.expect(t, two(), 0, fresh(7))
	p.add(line{pick(7), do(1, 0)}, line{dry(good(7, 1)), ok}, line{dry(bad(7, 1)), ok}, line{dry(good(7, 1)), ok}, line{dry(pick(7)), no(api.ErrBusy)})
	p.expect(t, two(), 0, api.Instance{Id: 7, Mode: api.Forward, Keys: 1, Key: 1, Due: 5, Tries: 1})
	p.add(line{tick(5), ok}, line{dry(pick(7)), do(1, 0)}, line{dry(pick(7)), do(1, 0)})
	p.expect(t, two(), 5, api.Instance{Id: 7, Mode: api.Forward, Keys: 1, Key: 1, Due: 5, Tries: 1})
}

// With every quorum: a Dry ask has the number that the next one gets.
func TestDryAsk(t *testing.T) {
	for n := range api.MaxQuorum + 1 {
		p := lines(line{start(7), ok}, line{dry(abort), number(1)}, line{dry(abort), number(1)}, line{dry(ask(7, api.Waive, 0, 1)), no(api.ErrState)}, line{dry(approve(1, 2)), no(api.ErrRequest)}, line{dry(withdraw(1, 4)), no(api.ErrRequest)})
		p.expect(t, quorum(n), 0, fresh(7))
	}
	assume := ask(7, api.Assume, 0, 1)
	p := lines(line{start(7), ok}, line{assume, number(1)}, line{dry(assume), number(2)}, line{dry(assume), number(2)}, line{dry(abort), no(api.ErrState)})
	d := steps(2, api.Step{Undo: true, Timeout: 5})
	d.Steps[0].Pivot = true
	p.expectOne(t, d, 0, api.Instance{Id: 7, Mode: api.Forward, Settled: 1, Ledger: []api.Entry{entry(2, 0, 1)}}, closed(asked(1, assume, 10)))
}

// The last approval, Dry, is answered with OK and carries nothing out.
func TestDryApproveAndWithdraw(t *testing.T) {
	p := lines(line{start(7), ok}, line{abort, number(1)}, line{dry(approve(1, 1)), ok}, line{dry(approve(1, 1)), ok}, line{dry(approve(1, 4)), no(api.ErrWho)}, line{dry(withdraw(1, 4)), ok}, line{dry(withdraw(1, 4)), ok}, line{dry(withdraw(1, 1)), no(api.ErrWho)})
	for n := 1; n <= api.MaxQuorum; n++ {
		p.expectOne(t, quorum(n), 0, fresh(7), asked(1, abort, 10))
	}
	p.add(line{approve(1, 1), ok})
	p.expectOne(t, quorum(1), 0, api.Instance{Id: 7, Mode: api.Undone}, closed(asked(1, abort, 10, 1)))
	p.add(line{dry(approve(1, 2)), ok}, line{dry(approve(1, 1)), no(api.ErrWho)})
	p.expectOne(t, quorum(2), 0, fresh(7), asked(1, abort, 10, 1))
	p.expectOne(t, quorum(3), 0, fresh(7), asked(1, abort, 10, 1))
}

// Full is full for Dry commands, too, and no more so because of them.
func TestDryLimits(t *testing.T) {
	p := askedTimes(39)
	for range 3 {
		p.add(line{dry(ask(7, api.Assume, 0, 1)), number(40)})
	}
	p.add(line{ask(7, api.Assume, 0, 1), number(40)}, line{dry(ask(7, api.Assume, 0, 1)), no(api.ErrFull)})
	p.expectOne(t, quorum(1), 0, fresh(7), requestsTo(40)...)
	p = lines(line{start(1), ok}, line{start(2), ok}, line{start(3), ok}, line{dry(start(4)), ok}, line{dry(start(5)), ok}, line{start(4), ok}, line{dry(start(5)), no(api.ErrFull)})
	p.expect(t, two(), 0, fresh(1), fresh(2), fresh(3), fresh(4))
}

func TestDryUnknownKinds(t *testing.T) {
	p := lines(line{start(7), ok})
	for _, kind := range []int{-1, 0, 10, 1<<32 + 1} {
		p.add(line{api.Cmd{Kind: kind, Inst: 8, A: 1, Who: 1, Reason: "r", Dry: true}, no(api.ErrKind)})
	}
	p.expect(t, two(), 0, fresh(7))
}

// In any script: without its Dry commands the rest is answered the same, and
// a Dry command is answered as it would be if it were not.
func TestDryInAnyScript(t *testing.T) {
	r := rand.New(rand.NewSource(7))
	for range 100 {
		d := likelyDef(r)
		s := likelyScript(r, 80)
		for k := range s {
			s[k].Dry = s[k].Kind != api.Sync && s[k].Kind != api.Crash && r.Intn(3) == 0
		}
		answers, _ := saga.Run(d, s)
		var p play
		for k, c := range s {
			if !c.Dry {
				p.add(line{c, answers[k]})
				continue
			}
			c.Dry = false
			q := p.with(line{c, answers[k]})
			q.expectAnswers(t, d)
		}
		w, _ := saga.State(d, s)
		p.expectWorld(t, d, w)
	}
}
