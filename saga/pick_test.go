package saga_test

import (
	"math"
	"testing"

	"saga/api"
)

func TestPickNoInstance(t *testing.T) {
	p := lines(line{pick(7), no(api.ErrId)}, line{start(7), ok}, line{pick(6), no(api.ErrId)}, line{pick(-1), no(api.ErrId)}, line{pick(256), no(api.ErrId)},
		line{pick(math.MinInt), no(api.ErrId)}, line{pick(math.MaxInt), no(api.ErrId)}, line{pick(0), no(api.ErrId)})
	p.expect(t, two(), 0, fresh(7))
}

func TestPickOver(t *testing.T) {
	d := steps(1, api.Step{Undo: true, Timeout: 5})
	p := lines(line{start(7), ok}, line{start(8), ok}, line{pick(7), do(1, 0)}, line{pick(8), do(1, 0)}, line{good(7, 1), ok}, line{bad(8, 1), ok}, line{pick(7), no(api.ErrOver)}, line{pick(8), no(api.ErrOver)})
	p.wait(30)
	p.add(line{pick(7), no(api.ErrOver)}, line{pick(8), no(api.ErrOver)})
	p.expect(t, d, 30, api.Instance{Id: 7, Mode: api.Done, Settled: 1, Keys: 1, Ledger: []api.Entry{entry(1, 0, 1)}}, api.Instance{Id: 8, Mode: api.Undone, Keys: 1})
}

// Due is the edge: one below it is busy, at it the key is asked for again.
func TestPickAgain(t *testing.T) {
	for _, timeout := range []int{1, 2, 19, 20} {
		d := steps(2, api.Step{Timeout: timeout})
		p := lines(line{tick(3), ok}, line{start(7), ok}, line{pick(7), do(1, 0)}, line{pick(7), no(api.ErrBusy)})
		p.wait(timeout - 1)
		p.add(line{pick(7), no(api.ErrBusy)})
		p.expect(t, d, timeout+2, api.Instance{Id: 7, Mode: api.Forward, Keys: 1, Key: 1, Due: timeout + 3, Tries: 1})
		p.add(line{tick(1), ok}, line{pick(7), do(1, 0)})
		p.expect(t, d, timeout+3, api.Instance{Id: 7, Mode: api.Forward, Keys: 1, Key: 1, Due: 2*timeout + 3, Tries: 1})
		p.add(line{pick(7), no(api.ErrBusy)}, line{tick(100), ok}, line{pick(7), do(1, 0)})
		p.expect(t, d, timeout+103, api.Instance{Id: 7, Mode: api.Forward, Keys: 1, Key: 1, Due: 2*timeout + 103, Tries: 1})
	}
}

// A key stays good past Due, until it was replied to.
func TestReplyPastDue(t *testing.T) {
	p := lines(line{start(7), ok}, line{pick(7), do(1, 0)}, line{tick(100), ok}, line{good(7, 1), ok}, line{good(7, 1), no(api.ErrKey)})
	p.expect(t, two(), 100, api.Instance{Id: 7, Mode: api.Forward, Settled: 1, Keys: 1, Wake: 100, Ledger: []api.Entry{entry(1, 0, 1)}})
}

// The Timeout is that of the next step, on the way back too.
func TestPickTimeouts(t *testing.T) {
	d := two()
	d.Steps[0].Timeout = 4
	d.Steps[1].Timeout = 9
	p := lines(line{start(7), ok}, line{pick(7), do(1, 0)})
	p.expect(t, d, 0, api.Instance{Id: 7, Mode: api.Forward, Keys: 1, Key: 1, Due: 4, Tries: 1})
	p.add(line{good(7, 1), ok}, line{pick(7), do(2, 1)})
	ledger := []api.Entry{entry(1, 0, 1)}
	p.expect(t, d, 0, api.Instance{Id: 7, Mode: api.Forward, Settled: 1, Keys: 2, Key: 2, Due: 9, Tries: 1, Ledger: ledger})
	p.add(line{bad(7, 2), ok}, line{pick(7), undo(3, 0)})
	p.expect(t, d, 0, api.Instance{Id: 7, Mode: api.Back, Settled: 1, Keys: 3, Key: 3, Due: 4, Tries: 1, Ledger: ledger})
	p.add(line{tick(3), ok}, line{pick(7), no(api.ErrBusy)}, line{tick(1), ok}, line{pick(7), undo(3, 0)})
	p.expect(t, d, 4, api.Instance{Id: 7, Mode: api.Back, Settled: 1, Keys: 3, Key: 3, Due: 8, Tries: 1, Ledger: ledger})
}

// Undo matters on the way back alone, and of the next step alone.
func TestPickNoUndo(t *testing.T) {
	d := steps(3, api.Step{Timeout: 5})
	d.Steps[1].Undo = true
	p := lines(line{start(7), ok}, line{pick(7), do(1, 0)}, line{good(7, 1), ok}, line{pick(7), do(2, 1)}, line{good(7, 2), ok}, line{pick(7), do(3, 2)}, line{bad(7, 3), ok})
	p.add(line{pick(7), undo(4, 1)}, line{good(7, 4), ok}, line{pick(7), no(api.ErrNoUndo)}, line{tick(100), ok}, line{pick(7), no(api.ErrNoUndo)})
	p.expect(t, d, 100, api.Instance{Id: 7, Mode: api.Back, Settled: 1, Keys: 4, Ledger: []api.Entry{entry(1, 0, 1), entry(1, 1, 2), entry(3, 1, 4)}})
}

// failing adds picks that fail n times with the answer given, each when it
// has woken.
func (p *play) failing(id, n, key, step int, answer func(key, step int) api.Answer) {
	for k := range n {
		p.add(line{pick(id), answer(key+k, step)}, line{bad(id, key+k), ok}, line{tick(8), ok})
	}
}

func (p *play) succeeding(id, key, step int, answer func(key, step int) api.Answer) {
	p.add(line{pick(id), answer(key, step)}, line{good(id, key), ok})
}

// longWay gives out 24 keys forward: step 5 fails for good with the last.
func longWay() play {
	p := lines(line{start(7), ok})
	for k := range 5 {
		p.failing(7, 3, 4*k+1, k, do)
		p.succeeding(7, 4*k+4, k, do)
	}
	p.failing(7, 4, 21, 5, do)
	return p
}

func longLedger(more ...api.Entry) []api.Entry {
	var l []api.Entry
	for k := range 5 {
		l = append(l, entry(1, k, 4*k+4))
	}
	return append(l, more...)
}

func TestPickFull(t *testing.T) {
	d := steps(6, api.Step{Undo: true, Timeout: 5, Retries: 3})
	p := longWay()
	p.failing(7, 3, 25, 4, undo)
	p.succeeding(7, 28, 4, undo)
	p.failing(7, 1, 29, 3, undo)
	p.add(line{pick(7), undo(30, 3)}, line{tick(4), ok}, line{pick(7), no(api.ErrBusy)}, line{tick(1), ok}, line{pick(7), undo(30, 3)})
	clock := 8*(5*3+4+3+1) + 5
	ledger := longLedger(entry(3, 4, 28))
	p.expect(t, d, clock, api.Instance{Id: 7, Mode: api.Back, Settled: 4, Keys: 30, Key: 30, Due: clock + 5, Tries: 2, Wake: clock - 5 - 8 + 1, Ledger: ledger})
	p.add(line{bad(7, 30), ok}, line{pick(7), no(api.ErrWait)}, line{tick(1), ok}, line{pick(7), no(api.ErrWait)}, line{tick(1), ok}, line{pick(7), no(api.ErrFull)})
	p.expect(t, d, clock+2, api.Instance{Id: 7, Mode: api.Back, Settled: 4, Keys: 30, Tries: 2, Wake: clock + 2, Ledger: ledger})
	p.add(line{start(8), ok}, line{pick(8), do(1, 0)})
	p.expectAnswers(t, d)
}

func TestPickNoUndoAheadOfFull(t *testing.T) {
	for _, canUndo := range []bool{false, true} {
		d := steps(6, api.Step{Undo: true, Timeout: 5, Retries: 3})
		d.Steps[2].Undo = canUndo
		p := longWay()
		p.failing(7, 3, 25, 4, undo)
		p.succeeding(7, 28, 4, undo)
		p.failing(7, 1, 29, 3, undo)
		p.succeeding(7, 30, 3, undo)
		if canUndo {
			p.add(line{pick(7), no(api.ErrFull)})
		} else {
			p.add(line{pick(7), no(api.ErrNoUndo)})
		}
		clock := 8 * (5*3 + 4 + 3 + 1)
		p.expect(t, d, clock, api.Instance{Id: 7, Mode: api.Back, Settled: 3, Keys: 30, Wake: clock, Ledger: longLedger(entry(3, 4, 28), entry(3, 3, 30))})
	}
}

// With all keys given out and the last one well, it is UNDONE, not full.
func TestLastKeyOfAll(t *testing.T) {
	d := steps(6, api.Step{Undo: true, Timeout: 5, Retries: 3})
	p := longWay()
	p.succeeding(7, 25, 4, undo)
	p.succeeding(7, 26, 3, undo)
	p.succeeding(7, 27, 2, undo)
	p.succeeding(7, 28, 1, undo)
	p.failing(7, 1, 29, 0, undo)
	p.succeeding(7, 30, 0, undo)
	p.add(line{pick(7), no(api.ErrOver)})
	clock := 8 * (5*3 + 4 + 1)
	p.expect(t, d, clock, api.Instance{Id: 7, Mode: api.Undone, Keys: 30, Wake: clock,
		Ledger: longLedger(entry(3, 4, 25), entry(3, 3, 26), entry(3, 2, 27), entry(3, 1, 28), entry(3, 0, 30))})
}

// Instances have keys of their own.
func TestInstancesApart(t *testing.T) {
	p := lines(line{start(7), ok}, line{start(8), ok}, line{pick(8), do(1, 0)}, line{good(8, 1), ok}, line{pick(8), do(2, 1)}, line{pick(7), do(1, 0)},
		line{good(7, 2), no(api.ErrKey)}, line{good(8, 1), no(api.ErrKey)}, line{bad(8, 2), ok}, line{good(7, 1), ok}, line{pick(8), undo(3, 0)}, line{pick(7), do(2, 1)})
	p.expect(t, two(), 0, api.Instance{Id: 7, Mode: api.Forward, Settled: 1, Keys: 2, Key: 2, Due: 5, Tries: 1, Ledger: []api.Entry{entry(1, 0, 1)}},
		api.Instance{Id: 8, Mode: api.Back, Settled: 1, Keys: 3, Key: 3, Due: 5, Tries: 1, Ledger: []api.Entry{entry(1, 0, 1)}})
}
