package saga_test

import (
	"fmt"
	"slices"
	"testing"

	"saga/api"
	"saga/saga"
)

// two is the definition of the document's examples.
func two() api.Def { return steps(2, api.Step{Undo: true, Timeout: 5}) }

// steps is a definition of n steps that are alike.
func steps(n int, s api.Step) api.Def {
	return api.Def{Steps: slices.Repeat([]api.Step{s}, n), Expiry: 10}
}

func start(id int) api.Cmd { return api.Cmd{Kind: api.Start, Inst: id} }

func pick(id int) api.Cmd { return api.Cmd{Kind: api.Pick, Inst: id} }

func good(id, key int) api.Cmd { return api.Cmd{Kind: api.Reply, Inst: id, A: key, B: 1} }

func bad(id, key int) api.Cmd { return api.Cmd{Kind: api.Reply, Inst: id, A: key} }

func tick(n int) api.Cmd { return api.Cmd{Kind: api.Tick, A: n} }

func ask(id, what, target, who int) api.Cmd {
	return api.Cmd{Kind: api.Ask, Inst: id, A: what, B: target, Who: who, Reason: "why"}
}

func approve(n, who int) api.Cmd { return api.Cmd{Kind: api.Approve, A: n, Who: who} }

func withdraw(n, who int) api.Cmd { return api.Cmd{Kind: api.Withdraw, A: n, Who: who} }

func sync() api.Cmd { return api.Cmd{Kind: api.Sync} }

func crash(n int) api.Cmd { return api.Cmd{Kind: api.Crash, A: n} }

func dry(c api.Cmd) api.Cmd {
	c.Dry = true
	return c
}

// asked is what an ask by this number makes.
func asked(n int, c api.Cmd, until int, by ...int) api.Request {
	r := api.Request{Number: n, Inst: c.Inst, What: c.A, Who: c.Who, Reason: c.Reason, By: by, Until: until}
	if c.A == api.Rewind {
		r.Target = c.B
	}
	return r
}

func closed(r api.Request) api.Request {
	r.Closed = true
	return r
}

var ok = api.Answer{}

func number(n int) api.Answer { return api.Answer{Number: n} }

func no(e api.Errno) api.Answer { return api.Answer{Code: e} }

func do(key, step int) api.Answer { return api.Answer{Number: key, Step: step, What: 1} }

func undo(key, step int) api.Answer { return api.Answer{Number: key, Step: step, What: 2} }

func entry(kind, step, ref int) api.Entry { return api.Entry{Kind: kind, Step: step, Ref: ref} }

// line is a command with the answer that it must get.
type line struct {
	cmd    api.Cmd
	answer api.Answer
}

// play is a script that grows line by line, with the answers it must get.
type play struct {
	cmds    []api.Cmd
	answers []api.Answer
}

func (p *play) add(lines ...line) {
	for _, l := range lines {
		p.cmds = append(p.cmds, l.cmd)
		p.answers = append(p.answers, l.answer)
	}
}

func lines(l ...line) play {
	var p play
	p.add(l...)
	return p
}

// with is a play of its own that begins like p.
func (p *play) with(l ...line) play {
	q := lines(p.pairs()...)
	q.add(l...)
	return q
}

func (p *play) pairs() []line {
	var l []line
	for k := range p.cmds {
		l = append(l, line{p.cmds[k], p.answers[k]})
	}
	return l
}

// wait ticks the clock on by n, however much that is.
func (p *play) wait(n int) {
	for n > 0 {
		m := min(n, api.MaxTick)
		p.add(line{tick(m), ok})
		n -= m
	}
}

// expect is for worlds without requests.
func (p *play) expect(t *testing.T, d api.Def, clock int, instances ...api.Instance) {
	t.Helper()
	p.expectWorld(t, d, api.World{Clock: clock, Instances: instances})
}

// expectOne is for worlds with one instance.
func (p *play) expectOne(t *testing.T, d api.Def, clock int, i api.Instance, requests ...api.Request) {
	t.Helper()
	p.expectWorld(t, d, api.World{Clock: clock, Instances: []api.Instance{i}, Requests: requests})
}

// expectWorld runs the play, and compares the answers, the world behind it,
// the journal, and what is read from that.
func (p *play) expectWorld(t *testing.T, d api.Def, want api.World) {
	t.Helper()
	p.expectAnswers(t, d)
	w, e := saga.State(d, p.cmds)
	if e != api.OK || text(w) != text(want) {
		t.Errorf("P5: State:\n%s, %d, want\n%s, 0", text(w), e, text(want))
	}
	k := p.disk()
	expectJournal(t, d, p.cmds, k.bytes, k.safe)
	expectRecover(t, d, k.bytes, want, len(k.bytes))
}

func (p *play) expectAnswers(t *testing.T, d api.Def) {
	t.Helper()
	answers, e := saga.Run(d, p.cmds)
	if e != api.OK || len(answers) != len(p.answers) {
		t.Fatalf("P4: Run: %d answers, %d, want %d, 0", len(answers), e, len(p.answers))
	}
	for k := range answers {
		if answers[k] != p.answers[k] {
			t.Errorf("P4: Run: command %d, %+v: %+v, want %+v", k, p.cmds[k], answers[k], p.answers[k])
		}
	}
}

// text is the same for an empty list and for none.
func text(x any) string { return fmt.Sprintf("%+v", x) }
