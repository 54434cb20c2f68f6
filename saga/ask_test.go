package saga_test

import (
	"math"
	"slices"
	"strings"
	"testing"

	"saga/api"
)

// scene is a place that a play leads the instance 7 to, at the time clock.
type scene struct {
	name    string
	d       api.Def
	p       play
	clock   int
	i       api.Instance
	can     []int // what can be asked for there, but for REWIND
	targets []int // of a REWIND
}

func four() api.Def { return steps(4, api.Step{Undo: true, Timeout: 5}) }

func withPivot(pivot int) api.Def {
	d := four()
	d.Steps[pivot].Pivot = true
	return d
}

func scenes() []scene {
	retries := four()
	retries.Steps[0].Retries = 1
	noUndo := four()
	noUndo.Steps[1].Undo = false
	three := forwardTo(3)
	failed := three.with(line{tick(1), ok}, line{pick(7), do(4, 3)}, line{bad(7, 4), ok})
	two := forwardTo(2)
	two.add(line{pick(7), do(3, 2)}, line{bad(7, 3), ok})
	return []scene{
		{"at the beginning", four(), lines(line{start(7), ok}), 0, fresh(7), []int{api.Assume, api.Abort}, nil},
		{"a key out", four(), lines(line{start(7), ok}, line{pick(7), do(1, 0)}), 0, api.Instance{Id: 7, Mode: api.Forward, Keys: 1, Key: 1, Due: 5, Tries: 1}, []int{api.Assume, api.Abort}, nil},
		{"waiting", retries, lines(line{start(7), ok}, line{pick(7), do(1, 0)}, line{bad(7, 1), ok}), 0, api.Instance{Id: 7, Mode: api.Forward, Keys: 1, Tries: 1, Wake: 1}, []int{api.Assume, api.Abort}, nil},
		{"three settled", four(), three, 0, api.Instance{Id: 7, Mode: api.Forward, Settled: 3, Keys: 3, Ledger: ledgerTo(3)}, []int{api.Assume, api.Abort}, []int{0, 1, 2}},
		{"three settled, a key out", four(), three.with(line{pick(7), do(4, 3)}), 0, api.Instance{Id: 7, Mode: api.Forward, Settled: 3, Keys: 4, Key: 4, Due: 5, Tries: 1, Ledger: ledgerTo(3)}, []int{api.Assume, api.Abort}, []int{0, 1, 2}},
		{"the pivot ahead", withPivot(3), three, 0, api.Instance{Id: 7, Mode: api.Forward, Settled: 3, Keys: 3, Ledger: ledgerTo(3)}, []int{api.Assume, api.Abort}, []int{0, 1, 2}},
		{"the pivot just behind", withPivot(2), three, 0, api.Instance{Id: 7, Mode: api.Forward, Settled: 3, Keys: 3, Ledger: ledgerTo(3)}, []int{api.Assume}, nil},
		{"the pivot behind", withPivot(1), three, 0, api.Instance{Id: 7, Mode: api.Forward, Settled: 3, Keys: 3, Ledger: ledgerTo(3)}, []int{api.Assume}, []int{2}},
		{"the pivot far behind", withPivot(0), three, 0, api.Instance{Id: 7, Mode: api.Forward, Settled: 3, Keys: 3, Ledger: ledgerTo(3)}, []int{api.Assume}, []int{1, 2}},
		{"stuck behind the pivot", withPivot(0), failed, 1, api.Instance{Id: 7, Mode: api.Forward, Stuck: true, Settled: 3, Keys: 4, Tries: 1, Ledger: ledgerTo(3)}, []int{api.Retry, api.Assume}, []int{1, 2}},
		{"back", four(), failed, 1, api.Instance{Id: 7, Mode: api.Back, Settled: 3, Keys: 4, Wake: 1, Ledger: ledgerTo(3)}, []int{api.Waive}, nil},
		{"back, a key out", four(), failed.with(line{pick(7), undo(5, 2)}), 1, api.Instance{Id: 7, Mode: api.Back, Settled: 3, Keys: 5, Key: 5, Due: 6, Tries: 1, Wake: 1, Ledger: ledgerTo(3)}, []int{api.Waive}, nil},
		{"back, stuck", four(), failed.with(line{pick(7), undo(5, 2)}, line{bad(7, 5), ok}), 1, api.Instance{Id: 7, Mode: api.Back, Stuck: true, Settled: 3, Keys: 5, Tries: 1, Wake: 1, Ledger: ledgerTo(3)}, []int{api.Retry, api.Waive}, nil},
		{"back, no undo", noUndo, two.with(line{pick(7), no(api.ErrNoUndo)}), 0, api.Instance{Id: 7, Mode: api.Back, Settled: 2, Keys: 3, Ledger: ledgerTo(2)}, []int{api.Waive}, nil},
		{"done", four(), forwardTo(4), 0, api.Instance{Id: 7, Mode: api.Done, Settled: 4, Keys: 4, Ledger: ledgerTo(4)}, nil, nil},
		{"undone", four(), lines(line{start(7), ok}, line{pick(7), do(1, 0)}, line{bad(7, 1), ok}), 0, api.Instance{Id: 7, Mode: api.Undone, Keys: 1}, nil, nil},
	}
}

func (s *scene) allows(what, target int) bool {
	if what == api.Rewind {
		return slices.Contains(s.targets, target)
	}
	return slices.Contains(s.can, what)
}

// after is the instance of a scene once the request 1 was carried out.
func (s *scene) after(what, target, clock int) api.Instance {
	i := s.i
	i.Key, i.Due, i.Tries, i.Stuck, i.Wake = 0, 0, 0, false, clock
	switch what {
	case api.Assume:
		i.Ledger = append(slices.Clone(i.Ledger), entry(2, i.Settled, 1))
		i.Settled++
		if i.Settled == 4 {
			i.Mode = api.Done
		}
	case api.Waive:
		i.Settled--
		i.Ledger = append(slices.Clone(i.Ledger), entry(4, i.Settled, 1))
	case api.Abort:
		i.Mode = api.Back
		if i.Settled == 0 {
			i.Mode = api.Undone
		}
	case api.Rewind:
		i.Mode, i.Target, i.Resume = api.Back, target, true
	}
	return i
}

var targets = []int{math.MinInt, -1, 0, 1, 2, 3, 4, 5, 1<<32 + 1, math.MaxInt}

// In every scene everything that there is to ask for, with any target and any
// quorum: what cannot be asked for is refused; what can waits for its
// approvals, and the last one carries it out.
func TestAskForEverythingEverywhere(t *testing.T) {
	for _, s := range scenes() {
		s.p.expect(t, s.d, s.clock, s.i)
		for quorum := range api.MaxQuorum + 1 {
			s.d.Quorum = quorum
			for what := api.Retry; what <= api.Rewind; what++ {
				for _, target := range targets {
					s.askFor(t, ask(7, what, target, 4))
				}
			}
		}
		if t.Failed() {
			t.Fatalf("the scene: %s", s.name)
		}
	}
}

func (s *scene) askFor(t *testing.T, c api.Cmd) {
	t.Helper()
	if !s.allows(c.A, c.B) {
		p := s.p.with(line{c, no(api.ErrState)})
		p.expect(t, s.d, s.clock, s.i)
		return
	}
	p := s.p.with(line{c, number(1)})
	r := asked(1, c, s.clock+10)
	clock := s.clock
	for who := range s.d.Quorum {
		p.expectOne(t, s.d, clock, s.i, r)
		p.add(line{tick(3), ok}, line{approve(1, who), ok})
		r.By = append(r.By, who)
		clock += 3
	}
	p.expectOne(t, s.d, clock, s.after(c.A, c.B, clock), closed(r))
}

// Every set of errors: the one named first is answered.
func TestAskErrorsInTurn(t *testing.T) {
	codes := []api.Errno{api.ErrId, api.ErrKind, api.ErrWho, api.ErrReason, api.ErrState, api.ErrFull}
	d := two()
	d.Quorum = 1
	for faults := range 1 << len(codes) {
		c := ask(7, api.Assume, 0, 1)
		first := len(codes)
		for k := len(codes) - 1; k >= 0; k-- {
			if faults>>k&1 == 1 {
				first = k
				spoil(&c, codes[k])
			}
		}
		requests := api.MaxAsks - 1
		if faults>>5 == 1 {
			requests = api.MaxAsks
		}
		p := askedTimes(requests)
		if first == len(codes) {
			p.add(line{c, number(requests + 1)})
		} else {
			p.add(line{c, no(codes[first])})
		}
		p.expectAnswers(t, d)
	}
}

// spoil makes a command be refused with the code, all else being well; there
// is nothing to do for ErrFull.
func spoil(c *api.Cmd, code api.Errno) {
	switch code {
	case api.ErrId:
		c.Inst = 8
	case api.ErrKind:
		c.A = 6
	case api.ErrWho:
		c.Who = 10
	case api.ErrReason:
		c.Reason = ""
	case api.ErrState:
		c.A = api.Waive
	}
}

func askedTimes(n int) play {
	p := lines(line{start(7), ok})
	for k := range n {
		p.add(line{ask(7, api.Assume, 0, 1), number(k + 1)})
	}
	return p
}

func requestsTo(n int) []api.Request {
	var l []api.Request
	for k := range n {
		l = append(l, asked(k+1, ask(7, api.Assume, 0, 1), 10))
	}
	return l
}

func TestAskNoInstance(t *testing.T) {
	p := lines(line{ask(7, api.Assume, 0, 1), no(api.ErrId)}, line{start(7), ok})
	for _, id := range []int{math.MinInt, -1, 0, 6, 8, 256, 1<<32 + 7, math.MaxInt} {
		p.add(line{ask(id, api.Assume, 0, 1), no(api.ErrId)})
	}
	p.expect(t, two(), 0, fresh(7))
}

func TestAskKind(t *testing.T) {
	p := lines(line{start(7), ok})
	for _, what := range []int{math.MinInt, -1, 0, 6, 7, 255, 257, 1<<32 + 2, math.MaxInt} {
		p.add(line{ask(7, what, 0, 1), no(api.ErrKind)})
	}
	p.expect(t, two(), 0, fresh(7))
}

func TestAskWho(t *testing.T) {
	d := two()
	d.Quorum = 1
	p := lines(line{start(7), ok})
	for _, who := range []int{math.MinInt, -1, 10, 255, 256, 1<<32 + 1, math.MaxInt} {
		p.add(line{ask(7, api.Assume, 0, who), no(api.ErrWho)})
	}
	p.expect(t, d, 0, fresh(7))
	var asks []api.Cmd
	for who := range 10 {
		asks = append(asks, ask(7, api.Assume, 0, who))
	}
	p.expectOpen(t, d, asks)
}

// expectOpen adds asks behind a START, each of which becomes an open request.
func (p *play) expectOpen(t *testing.T, d api.Def, asks []api.Cmd) {
	t.Helper()
	var requests []api.Request
	for k, c := range asks {
		p.add(line{c, number(k + 1)})
		requests = append(requests, asked(k+1, c, 10))
	}
	p.expectOne(t, d, 0, fresh(7), requests...)
}

func because(reason string) api.Cmd {
	c := ask(7, api.Assume, 0, 1)
	c.Reason = reason
	return c
}

// A Reason is counted in bytes, may have any, and is kept as it is.
func TestAskReason(t *testing.T) {
	d := two()
	d.Quorum = 1
	p := lines(line{start(7), ok})
	for _, reason := range []string{"", strings.Repeat("x", 21), strings.Repeat("x", 256), strings.Repeat("x", 257), strings.Repeat("ä", 11), strings.Repeat("\x00", 21), strings.Repeat("\xff", 21), strings.Repeat("x", 1<<20)} {
		p.add(line{because(reason), no(api.ErrReason)})
	}
	p.expect(t, d, 0, fresh(7))
	var asks []api.Cmd
	for _, reason := range []string{"x", " ", "\x00", "\xff", strings.Repeat("x", 19), strings.Repeat("x", 20), strings.Repeat("ä", 10), strings.Repeat("\x00", 20), strings.Repeat("\xff", 20), "\xe4\n\r\t\"\\%d"} {
		asks = append(asks, because(reason))
	}
	p.expectOpen(t, d, asks)
}

func TestAskFull(t *testing.T) {
	d := two()
	d.Quorum = 1
	p := askedTimes(api.MaxAsks)
	p.add(line{ask(7, api.Assume, 0, 2), no(api.ErrFull)}, line{ask(7, api.Waive, 0, 2), no(api.ErrState)})
	p.expectOne(t, d, 0, fresh(7), requestsTo(40)...)
	p.add(line{withdraw(1, 1), ok}, line{ask(7, api.Assume, 0, 2), no(api.ErrFull)}, line{approve(40, 2), ok}, line{ask(7, api.Assume, 0, 2), no(api.ErrFull)}, line{tick(50), ok}, line{ask(7, api.Assume, 0, 2), no(api.ErrFull)}, line{start(8), ok}, line{ask(8, api.Assume, 0, 2), no(api.ErrFull)})
	requests := requestsTo(40)
	requests[0].Closed = true
	requests[39].Closed = true
	requests[39].By = []int{2}
	p.expectWorld(t, d, api.World{Clock: 50, Instances: []api.Instance{{Id: 7, Mode: api.Forward, Settled: 1, Ledger: []api.Entry{entry(2, 0, 40)}}, fresh(8)}, Requests: requests})
}

// Requests that are carried out at once count, too.
func TestAskFullAlone(t *testing.T) {
	d := steps(2, api.Step{Timeout: 5})
	p := lines(line{start(7), ok})
	for n := 1; n <= 37; n += 3 {
		p.add(line{ask(7, api.Assume, 0, 1), number(n)}, line{ask(7, api.Rewind, 0, 2), number(n + 1)}, line{ask(7, api.Waive, 0, 3), number(n + 2)})
	}
	p.add(line{ask(7, api.Assume, 0, 1), number(40)}, line{ask(7, api.Assume, 0, 1), no(api.ErrFull)}, line{pick(7), do(1, 1)}, line{good(7, 1), ok}, line{ask(7, api.Assume, 0, 1), no(api.ErrState)})
	p.expectAnswers(t, d)
}

// Refused asks have no number.
func TestNumbersOfRequests(t *testing.T) {
	d := two()
	d.Quorum = 2
	p := lines(line{start(7), ok}, line{start(8), ok}, line{ask(7, api.Waive, 0, 1), no(api.ErrState)}, line{ask(8, api.Assume, 0, 1), number(1)}, line{ask(9, api.Abort, 0, 1), no(api.ErrId)}, line{tick(4), ok}, line{ask(7, api.Abort, 5, 2), number(2)})
	p.expectWorld(t, d, api.World{Clock: 4, Instances: []api.Instance{fresh(7), fresh(8)},
		Requests: []api.Request{{Number: 1, Inst: 8, What: api.Assume, Who: 1, Reason: "why", Until: 10}, {Number: 2, Inst: 7, What: api.Abort, Who: 2, Reason: "why", Until: 14}}})
}
