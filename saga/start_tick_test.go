package saga_test

import (
	"math"
	"testing"

	"saga/api"
)

func fresh(id int) api.Instance { return api.Instance{Id: id, Mode: api.Forward} }

func TestNothingAtTheBeginning(t *testing.T) {
	p := lines()
	p.expect(t, two(), 0)
}

func TestStartRange(t *testing.T) {
	p := lines(line{start(-1), no(api.ErrRange)}, line{start(256), no(api.ErrRange)}, line{start(math.MinInt), no(api.ErrRange)}, line{start(math.MaxInt), no(api.ErrRange)},
		line{start(1<<32 + 7), no(api.ErrRange)}, line{start(0), ok}, line{start(255), ok})
	p.expect(t, two(), 0, fresh(0), fresh(255))
}

func TestStartWakeIsNotTheClock(t *testing.T) {
	p := lines(line{tick(9), ok}, line{start(7), ok})
	p.expect(t, two(), 9, fresh(7))
}

func TestStartTwice(t *testing.T) {
	p := lines(line{start(7), ok}, line{start(7), no(api.ErrId)}, line{start(8), ok}, line{start(7), no(api.ErrId)}, line{start(8), no(api.ErrId)})
	p.expect(t, two(), 0, fresh(7), fresh(8))
}

func TestStartFull(t *testing.T) {
	p := lines(line{start(4), ok}, line{start(3), ok}, line{start(2), ok}, line{start(1), ok}, line{start(0), no(api.ErrFull)})
	p.add(line{start(1), no(api.ErrId)}, line{start(-1), no(api.ErrRange)}, line{start(256), no(api.ErrRange)})
	p.expect(t, two(), 0, fresh(4), fresh(3), fresh(2), fresh(1))
}

// An instance that is over keeps its Id and its place.
func TestStartAgainWhenOver(t *testing.T) {
	d := steps(1, api.Step{Timeout: 1})
	p := lines(line{start(7), ok}, line{pick(7), do(1, 0)}, line{good(7, 1), ok}, line{start(7), no(api.ErrId)}, line{start(1), ok}, line{start(2), ok}, line{start(3), ok}, line{start(4), no(api.ErrFull)})
	p.expect(t, d, 0, api.Instance{Id: 7, Mode: api.Done, Settled: 1, Keys: 1, Ledger: []api.Entry{entry(1, 0, 1)}}, fresh(1), fresh(2), fresh(3))
}

func TestTickRange(t *testing.T) {
	p := lines(line{tick(0), no(api.ErrRange)}, line{tick(-1), no(api.ErrRange)}, line{tick(101), no(api.ErrRange)}, line{tick(math.MaxInt), no(api.ErrRange)}, line{tick(math.MinInt), no(api.ErrRange)})
	p.expect(t, two(), 0)
	p.add(line{tick(1), ok}, line{tick(100), ok}, line{tick(math.MaxInt), no(api.ErrRange)})
	p.expect(t, two(), 101)
}

func TestTickClock(t *testing.T) {
	var p play
	p.wait(9950)
	p.add(line{tick(51), no(api.ErrClock)}, line{tick(100), no(api.ErrClock)}, line{tick(101), no(api.ErrRange)})
	p.expect(t, two(), 9950)
	p.add(line{tick(50), ok}, line{tick(1), no(api.ErrClock)}, line{tick(0), no(api.ErrRange)}, line{tick(101), no(api.ErrRange)})
	p.expect(t, two(), 10000)
}

// At the last time there is, everything but the clock goes on, and times
// above MaxClock may be named.
func TestAtTheLastTime(t *testing.T) {
	d := steps(1, api.Step{Timeout: 20, Retries: 1})
	var p play
	p.wait(10000)
	p.add(line{start(7), ok}, line{pick(7), do(1, 0)})
	p.expect(t, d, 10000, api.Instance{Id: 7, Mode: api.Forward, Keys: 1, Key: 1, Due: 10020, Tries: 1})
	p.add(line{bad(7, 1), ok}, line{pick(7), no(api.ErrWait)})
	p.expect(t, d, 10000, api.Instance{Id: 7, Mode: api.Forward, Keys: 1, Tries: 1, Wake: 10001})
}

func TestUnknownKinds(t *testing.T) {
	for _, kind := range []int{0, -1, 10, 11, 255, 257, 1<<32 + 1, math.MinInt, math.MaxInt} {
		c := api.Cmd{Kind: kind, Inst: 7, A: 1, B: 1, Who: 1, Reason: "r"}
		p := lines(line{c, no(api.ErrKind)}, line{start(7), ok}, line{c, no(api.ErrKind)}, line{pick(7), do(1, 0)}, line{c, no(api.ErrKind)})
		p.expect(t, two(), 0, api.Instance{Id: 7, Mode: api.Forward, Keys: 1, Key: 1, Due: 5, Tries: 1})
	}
}

// What a command does not name may be anything.
func TestUnnamedFields(t *testing.T) {
	p := lines(line{start(7), ok}, line{pick(7), do(1, 0)}, line{tick(3), ok}, line{good(7, 1), ok}, line{tick(3), ok})
	for _, n := range []int{math.MinInt, -1, 1, 300, math.MaxInt} {
		q := lines(p.pairs()...)
		for k := range q.cmds {
			strew(&q.cmds[k], n)
		}
		q.expect(t, two(), 6, api.Instance{Id: 7, Mode: api.Forward, Settled: 1, Keys: 1, Wake: 3, Ledger: []api.Entry{entry(1, 0, 1)}})
	}
}

func strew(c *api.Cmd, n int) {
	c.Who = n
	c.Reason = "a reason that is longer than any may be"
	if c.Kind == api.Tick {
		c.Inst = n
	}
	if c.Kind == api.Start || c.Kind == api.Pick {
		c.A = n
	}
	if c.Kind != api.Reply {
		c.B = n
	}
}
