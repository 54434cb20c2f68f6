package saga_test

import (
	"testing"

	"saga/api"
)

func TestExample1(t *testing.T) {
	p := lines(line{start(7), ok}, line{pick(7), do(1, 0)}, line{good(7, 1), ok}, line{pick(7), do(2, 1)}, line{good(7, 2), ok})
	p.expect(t, two(), 0, api.Instance{Id: 7, Mode: api.Done, Settled: 2, Keys: 2, Ledger: []api.Entry{entry(1, 0, 1), entry(1, 1, 2)}})
}

func TestExample2(t *testing.T) {
	p := lines(line{start(7), ok}, line{pick(7), do(1, 0)}, line{good(7, 1), ok}, line{pick(7), do(2, 1)}, line{bad(7, 2), ok})
	p.expect(t, two(), 0, api.Instance{Id: 7, Mode: api.Back, Settled: 1, Keys: 2, Ledger: []api.Entry{entry(1, 0, 1)}})
	p.add(line{pick(7), undo(3, 0)})
	p.expect(t, two(), 0, api.Instance{Id: 7, Mode: api.Back, Settled: 1, Keys: 3, Key: 3, Due: 5, Tries: 1, Ledger: []api.Entry{entry(1, 0, 1)}})
	p.add(line{good(7, 3), ok})
	p.expect(t, two(), 0, api.Instance{Id: 7, Mode: api.Undone, Keys: 3, Ledger: []api.Entry{entry(1, 0, 1), entry(3, 0, 3)}})
}

func TestExample3(t *testing.T) {
	p := lines(line{start(7), ok}, line{pick(7), do(1, 0)}, line{pick(7), no(api.ErrBusy)}, line{tick(5), ok}, line{pick(7), do(1, 0)}, line{good(7, 2), no(api.ErrKey)})
	p.expect(t, two(), 5, api.Instance{Id: 7, Mode: api.Forward, Keys: 1, Key: 1, Due: 10, Tries: 1})
}

func TestExample4(t *testing.T) {
	d := steps(2, api.Step{Undo: true, Timeout: 5, Retries: 2})
	p := lines(line{start(7), ok}, line{pick(7), do(1, 0)}, line{bad(7, 1), ok})
	p.expect(t, d, 0, api.Instance{Id: 7, Mode: api.Forward, Keys: 1, Tries: 1, Wake: 1})
	p.add(line{pick(7), no(api.ErrWait)}, line{tick(1), ok}, line{pick(7), do(2, 0)}, line{bad(7, 2), ok})
	p.expect(t, d, 1, api.Instance{Id: 7, Mode: api.Forward, Keys: 2, Tries: 2, Wake: 3})
}

func TestExample5(t *testing.T) {
	d := two()
	d.Steps[0].Pivot = true
	p := lines(line{start(7), ok}, line{pick(7), do(1, 0)}, line{good(7, 1), ok}, line{pick(7), do(2, 1)}, line{bad(7, 2), ok}, line{pick(7), no(api.ErrStuck)})
	p.expect(t, d, 0, api.Instance{Id: 7, Mode: api.Forward, Stuck: true, Settled: 1, Keys: 2, Tries: 1, Ledger: []api.Entry{entry(1, 0, 1)}})
	retry := api.Request{Number: 1, Inst: 7, What: api.Retry, Who: 1, Reason: "r", Until: 10, Closed: true}
	p.add(line{api.Cmd{Kind: 5, Inst: 7, A: 1, Who: 1, Reason: "r"}, number(1)})
	p.expectOne(t, d, 0, api.Instance{Id: 7, Mode: api.Forward, Settled: 1, Keys: 2, Ledger: []api.Entry{entry(1, 0, 1)}}, retry)
	assume := api.Request{Number: 2, Inst: 7, What: api.Assume, Who: 1, Reason: "r", Until: 10, Closed: true}
	p.add(line{api.Cmd{Kind: 5, Inst: 7, A: 4, Who: 1, Reason: "r"}, no(api.ErrState)}, line{api.Cmd{Kind: 5, Inst: 7, A: 2, Who: 1, Reason: "r"}, number(2)})
	p.expectOne(t, d, 0, api.Instance{Id: 7, Mode: api.Done, Settled: 2, Keys: 2, Ledger: []api.Entry{entry(1, 0, 1), entry(2, 1, 2)}}, retry, assume)
}

func TestExample6(t *testing.T) {
	d := two()
	d.Quorum = 2
	p := lines(line{start(7), ok}, line{ask(7, api.Abort, 0, 1), number(1)}, line{approve(1, 1), no(api.ErrWho)}, line{approve(1, 2), ok}, line{approve(1, 2), no(api.ErrWho)})
	abort := api.Request{Number: 1, Inst: 7, What: api.Abort, Who: 1, Reason: "why", By: []int{2}, Until: 10}
	p.expectOne(t, d, 0, fresh(7), abort)
	p.add(line{approve(1, 3), ok}, line{approve(1, 4), no(api.ErrRequest)})
	abort.By = []int{2, 3}
	abort.Closed = true
	p.expectOne(t, d, 0, api.Instance{Id: 7, Mode: api.Undone}, abort)
}

func TestExample7(t *testing.T) {
	expectJournal(t, two(), []api.Cmd{start(7)}, "\x05\x01\x07\x00\x00\x00\x32\x00", 0)
	expectJournal(t, two(), []api.Cmd{tick(3)}, "\x05\x04\x00\x03\x00\x00\x30\x00", 0)
}

func TestExample8(t *testing.T) {
	p := lines(line{start(7), ok}, line{sync(), ok}, line{tick(3), ok})
	half := p.with(line{crash(4), ok})
	half.expect(t, two(), 0, fresh(7))
	expectJournal(t, two(), half.cmds, "\x05\x01\x07\x00\x00\x00\x32\x00", 8)
	whole := p.with(line{crash(8), ok})
	whole.expect(t, two(), 3, fresh(7))
	expectJournal(t, two(), whole.cmds, "\x05\x01\x07\x00\x00\x00\x32\x00\x05\x04\x00\x03\x00\x00\x30\x00", 16)
}

func TestExample9(t *testing.T) {
	p := lines(line{start(7), ok}, line{tick(3), ok}, line{pick(7), do(1, 0)}, line{crash(0), ok})
	p.expect(t, two(), 3, api.Instance{Id: 7, Mode: api.Forward, Keys: 1, Key: 1, Due: 8, Tries: 1})
	p = lines(line{start(7), ok}, line{tick(3), ok}, line{crash(0), ok})
	p.expect(t, two(), 0)
}

func TestExample10(t *testing.T) {
	one, three := "\x05\x01\x07\x00\x00\x00\x32\x00", "\x05\x04\x00\x03\x00\x00\x30\x00"
	expectRecover(t, two(), one+three+"\x00", api.World{Clock: 3, Instances: []api.Instance{fresh(7)}}, 16)
	expectRecover(t, two(), one+one, api.World{Instances: []api.Instance{fresh(7)}}, 8)
	expectRecover(t, two(), "\x05\x01\x07\x01\x00\x00\x35\x00", api.World{}, 0)
}
