package saga_test

import (
	"math"
	"math/rand"
	"slices"
	"testing"

	"saga/api"
	"saga/saga"
)

// expectKept runs the play, whose crashes may be any, and compares the world
// behind it with that of the commands that are kept alone.
func (p *play) expectKept(t *testing.T, d api.Def) {
	t.Helper()
	w, e := saga.State(d, p.disk().kept)
	if e != api.OK {
		t.Fatalf("P5: %d", e)
	}
	p.expectWorld(t, d, w)
}

// answered is the play of a script with the answers it gets, each compared
// with the one that is due behind the commands that are kept alone.
func answered(t *testing.T, d api.Def, s []api.Cmd) play {
	t.Helper()
	answers, e := saga.Run(d, s)
	if e != api.OK || len(answers) != len(s) {
		t.Fatalf("P4: %d, %d answers to %d commands", e, len(answers), len(s))
	}
	var p play
	var k disk
	for n, c := range s {
		if want := due(d, k.kept, c); answers[n] != want {
			t.Fatalf("P4: %+v behind %+v: %+v, want %+v", c, s[:n], answers[n], want)
		}
		k.add(c, answers[n])
		p.add(line{c, answers[n]})
	}
	return p
}

func due(d api.Def, kept []api.Cmd, c api.Cmd) api.Answer {
	switch {
	case c.Kind == api.Crash && c.A < 0:
		return no(api.ErrRange)
	case c.Kind == api.Crash, c.Kind == api.Sync:
		return ok
	}
	answers, _ := saga.Run(d, append(slices.Clone(kept), c))
	return answers[len(answers)-1]
}

func TestCrashBelowZero(t *testing.T) {
	for _, n := range []int{math.MinInt, math.MinInt + 1, -256, -1} {
		p := lines(line{crash(n), no(api.ErrRange)}, line{start(7), ok}, line{sync(), ok}, line{tick(3), ok}, line{crash(n), no(api.ErrRange)}, line{dry(crash(n)), no(api.ErrRange)})
		p.expect(t, two(), 3, fresh(7))
		expectJournal(t, two(), p.cmds, record("\x01\x07\x00\x00\x00")+record("\x04\x00\x03\x00\x00"), 8)
	}
}

// CRASH names A alone, and does not look at Dry; nor does SYNC.
func TestCrashAndSyncUnnamedFields(t *testing.T) {
	for _, n := range []int{math.MinInt, -1, 0, 7, 300, math.MaxInt} {
		for _, dry := range []bool{false, true} {
			s := api.Cmd{Kind: api.Sync, Inst: n, A: n, B: n, Who: n, Reason: "a reason that is longer than any may be", Dry: dry}
			c := s
			c.Kind, c.A = api.Crash, 8
			p := lines(line{start(7), ok}, line{s, ok}, line{tick(3), ok}, line{tick(4), ok}, line{c, ok})
			p.expect(t, two(), 3, fresh(7))
			expectJournal(t, two(), p.cmds, record("\x01\x07\x00\x00\x00")+record("\x04\x00\x03\x00\x00"), 16)
		}
	}
}

// Two records of 8 bytes, none of them safe: how many stay at each A.
func TestCrashAtEachByte(t *testing.T) {
	one, three := record("\x01\x07\x00\x00\x00"), record("\x04\x00\x03\x00\x00")
	for n := range 40 {
		p := lines(line{start(7), ok}, line{tick(3), ok}, line{crash(n), ok})
		switch {
		case n < 8:
			p.expect(t, two(), 0)
			expectJournal(t, two(), p.cmds, "", 0)
		case n < 16:
			p.expect(t, two(), 0, fresh(7))
			expectJournal(t, two(), p.cmds, one, 8)
		default:
			p.expect(t, two(), 3, fresh(7))
			expectJournal(t, two(), p.cmds, one+three, 16)
		}
	}
}

func TestCrashWithMoreThanThereIs(t *testing.T) {
	for _, n := range []int{8, 9, 16, 255, 256, 1 << 31, 1 << 32, 1 << 62, math.MaxInt - 16, math.MaxInt - 8, math.MaxInt - 1, math.MaxInt} {
		p := lines(line{crash(n), ok}, line{start(7), ok}, line{tick(2), ok}, line{sync(), ok}, line{crash(n), ok}, line{tick(3), ok}, line{crash(n), ok}, line{crash(n), ok})
		p.expect(t, two(), 5, fresh(7))
		if j, safe, _ := saga.Journal(two(), p.cmds); len(j) != 24 || safe != 24 {
			t.Errorf("P6: CRASH %d: %d bytes, %d safe, want 24", n, len(j), safe)
		}
	}
}

// A record with a reason has bytes like any other.
func TestCrashInsideAReason(t *testing.T) {
	c := ask(7, api.Assume, 0, 1)
	c.Reason = "\x05\x04\x00\x03\x00\x00\x30\x00" // itself a record
	r := closed(asked(1, c, 10))
	for n := range 30 {
		p := lines(line{start(7), ok}, line{sync(), ok}, line{c, number(1)}, line{tick(1), ok}, line{crash(n), ok})
		i := api.Instance{Id: 7, Mode: api.Forward, Settled: 1, Ledger: []api.Entry{entry(2, 0, 1)}}
		switch {
		case n < 16:
			p.expect(t, two(), 0, fresh(7))
		case n < 24:
			p.expectOne(t, two(), 0, i, r)
		default:
			p.expectOne(t, two(), 1, i, r)
		}
	}
}

// What was safe stays, by SYNC or by PICK, and what was lost is lost.
func TestCrashKeepsWhatIsSafe(t *testing.T) {
	p := lines(line{start(7), ok}, line{tick(1), ok}, line{pick(7), do(1, 0)}, line{crash(0), ok})
	out := api.Instance{Id: 7, Mode: api.Forward, Keys: 1, Key: 1, Due: 6, Tries: 1}
	p.expect(t, two(), 1, out)
	p.add(line{good(7, 1), ok}, line{crash(0), ok})
	p.expect(t, two(), 1, out)
	p.add(line{good(7, 1), ok}, line{crash(7), ok})
	p.expect(t, two(), 1, out)
	p.add(line{tick(4), ok}, line{pick(7), no(api.ErrBusy)}, line{crash(0), ok}, line{pick(7), no(api.ErrBusy)}, line{tick(5), ok}, line{pick(7), do(1, 0)}, line{crash(0), ok})
	out.Due = 11
	p.expect(t, two(), 6, out)
	p.add(line{dry(good(7, 1)), ok}, line{good(7, 1), ok}, line{dry(sync()), ok}, line{pick(8), no(api.ErrId)}, line{dry(pick(7)), do(2, 1)}, line{tick(1), ok}, line{crash(0), ok})
	p.expect(t, two(), 6, api.Instance{Id: 7, Mode: api.Forward, Settled: 1, Keys: 1, Wake: 6, Ledger: []api.Entry{entry(1, 0, 1)}})
}

// A Dry PICK and one that is refused keep nothing.
func TestCrashBehindNoPick(t *testing.T) {
	p := lines(line{start(7), ok}, line{dry(pick(7)), do(1, 0)}, line{pick(8), no(api.ErrId)}, line{crash(0), ok})
	p.expect(t, two(), 0)
	p.add(line{pick(7), no(api.ErrId)}, line{good(7, 1), no(api.ErrId)})
	p.expect(t, two(), 0)
}

// The clock goes on from where it was read, and an Id is free again.
func TestCrashFreesTheId(t *testing.T) {
	p := lines(line{start(1), ok}, line{start(2), ok}, line{sync(), ok}, line{start(3), ok}, line{start(4), ok}, line{start(5), no(api.ErrFull)}, line{start(3), no(api.ErrId)}, line{tick(9), ok}, line{crash(8), ok})
	p.expect(t, two(), 0, fresh(1), fresh(2), fresh(3))
	p.add(line{start(3), no(api.ErrId)}, line{start(5), ok}, line{start(4), no(api.ErrFull)}, line{pick(4), no(api.ErrId)}, line{crash(7), ok}, line{start(4), ok}, line{tick(2), ok}, line{start(5), no(api.ErrFull)})
	p.expect(t, two(), 2, fresh(1), fresh(2), fresh(3), fresh(4))
}

func TestCrashAtTheLastTime(t *testing.T) {
	var p play
	p.wait(9900)
	p.add(line{sync(), ok}, line{tick(100), ok}, line{tick(1), no(api.ErrClock)}, line{crash(0), ok}, line{tick(99), ok}, line{tick(1), ok}, line{tick(1), no(api.ErrClock)}, line{crash(8), ok}, line{tick(2), no(api.ErrClock)}, line{tick(1), ok})
	p.expect(t, two(), 10000)
}

// A request's number is given out anew, and its approvals and its end are
// lost with their records.
func TestCrashOfRequests(t *testing.T) {
	other := ask(7, api.Assume, 0, 5)
	p := lines(line{start(7), ok}, line{abort, number(1)}, line{sync(), ok}, line{approve(1, 1), ok}, line{withdraw(1, 4), ok}, line{other, number(2)}, line{crash(0), ok})
	p.expectOne(t, quorum(2), 0, fresh(7), asked(1, abort, 10))
	p.add(line{approve(2, 1), no(api.ErrRequest)}, line{approve(1, 3), ok}, line{approve(1, 1), ok}, line{approve(1, 2), no(api.ErrRequest)}, line{other, no(api.ErrState)}, line{crash(8), ok})
	p.expectOne(t, quorum(2), 0, fresh(7), asked(1, abort, 10, 3))
	p.add(line{approve(1, 3), no(api.ErrWho)}, line{other, number(2)}, line{crash(10), ok})
	p.expectOne(t, quorum(2), 0, fresh(7), asked(1, abort, 10, 3))
	late := ask(7, api.Retry, 0, 6)
	p.add(line{tick(3), ok}, line{late, no(api.ErrState)}, line{other, number(2)}, line{crash(19), ok})
	p.expectOne(t, quorum(2), 3, fresh(7), asked(1, abort, 10, 3), asked(2, other, 13))
	p.add(line{withdraw(1, 4), ok}, line{crash(7), ok}, line{withdraw(1, 4), ok}, line{crash(8), ok}, line{withdraw(1, 4), no(api.ErrRequest)}, line{approve(2, 7), ok}, line{approve(2, 8), ok}, line{crash(8), ok}, line{approve(2, 9), ok})
	p.expectOne(t, quorum(2), 3, api.Instance{Id: 7, Mode: api.Forward, Settled: 1, Wake: 3, Ledger: []api.Entry{entry(2, 0, 2)}}, closed(asked(1, abort, 10, 3)), closed(asked(2, other, 13, 7, 9)))
}

// A request that was carried out is not carried out once it is lost.
func TestCrashTakesBackWhatWasCarriedOut(t *testing.T) {
	p := forwardTo(2)
	p.add(line{ask(7, api.Rewind, 1, 1), number(1)}, line{ask(7, api.Waive, 0, 1), number(2)}, line{tick(1), ok}, line{ask(7, api.Assume, 0, 1), number(3)}, line{crash(7), ok}, line{crash(0), ok})
	// The reply to the second key is behind the PICK, and lost with the rest.
	want := api.Instance{Id: 7, Mode: api.Forward, Settled: 1, Keys: 2, Key: 2, Due: 5, Tries: 1, Ledger: ledgerTo(1)}
	p.expect(t, four(), 0, want)
	p.add(line{good(7, 2), ok}, line{ask(7, api.Rewind, 0, 1), number(1)}, line{ask(7, api.Waive, 0, 1), number(2)}, line{crash(29), ok})
	want = api.Instance{Id: 7, Mode: api.Back, Settled: 2, Resume: true, Keys: 2, Ledger: ledgerTo(2)}
	p.expectOne(t, four(), 0, want, closed(asked(1, ask(7, api.Rewind, 0, 1), 10)))
	p.add(line{pick(7), undo(3, 1)}, line{ask(7, api.Assume, 0, 1), no(api.ErrState)}, line{good(7, 2), no(api.ErrKey)}, line{good(7, 3), ok}, line{ask(7, api.Waive, 0, 1), number(2)})
	want = api.Instance{Id: 7, Mode: api.Forward, Keys: 3, Ledger: []api.Entry{entry(1, 0, 1), entry(1, 1, 2), entry(3, 1, 3), entry(4, 0, 2)}}
	p.expectOne(t, four(), 0, want, closed(asked(1, ask(7, api.Rewind, 0, 1), 10)), closed(asked(2, ask(7, api.Waive, 0, 1), 10)))
}

// Two crashes one behind the other: the second one finds all of it safe.
func TestCrashTwice(t *testing.T) {
	for n := range 20 {
		for m := range 20 {
			p := lines(line{start(7), ok}, line{tick(3), ok}, line{crash(n), ok}, line{crash(m), ok})
			once := lines(line{start(7), ok}, line{tick(3), ok}, line{crash(n), ok})
			p.expectKept(t, two())
			w, _ := saga.State(two(), once.cmds)
			p.expectWorld(t, two(), w)
		}
	}
	p := lines(line{start(7), ok}, line{tick(3), ok}, line{crash(8), ok}, line{tick(4), ok}, line{start(8), ok}, line{crash(8), ok}, line{tick(5), ok}, line{crash(7), ok})
	p.expect(t, two(), 4, fresh(7))
}

// Anywhere in a play with every command, with every A, and again behind it:
// each answer is the one due behind what is kept.
func TestCrashAnywhere(t *testing.T) {
	d := quorum(2)
	p := wide()
	for k := range p.cmds {
		for n := range 14 {
			s := slices.Concat(p.cmds[:k], []api.Cmd{crash(n)}, p.cmds[k:], []api.Cmd{crash(30 - n)})
			q := answered(t, d, s)
			q.expectKept(t, d)
		}
	}
}

// All of a play that no PICK makes safe, cut at every byte: P9.
func TestCrashOfALongTail(t *testing.T) {
	d := quorum(2)
	p := lines(line{start(7), ok}, line{pick(7), do(1, 0)}, line{good(7, 1), ok}, line{ask(7, api.Rewind, 0, 1), number(1)}, line{approve(1, 2), ok}, line{tick(1), ok}, line{ask(7, api.Assume, 0, 2), number(2)}, line{start(8), ok}, line{withdraw(2, 2), ok}, line{approve(1, 3), ok})
	p.add(line{ask(7, api.Waive, 0, 5), number(3)}, line{tick(9), ok}, line{approve(3, 6), ok}, line{approve(3, 7), ok})
	k := p.disk()
	seen := 0
	for n := range len(k.bytes) - k.safe + 2 {
		q := p.with(line{crash(n), ok})
		q.expectKept(t, d)
		count, size := k.whole(k.safe + n)
		w, _ := saga.State(d, k.kept[:count])
		q.expectWorld(t, d, w)
		seen = max(seen, size)
	}
	if seen != len(k.bytes) {
		t.Errorf("P9: %d of %d bytes", seen, len(k.bytes))
	}
}

// crashing is a likely script with crashes and SYNCs in it, and replies that
// fit.
func crashing(r *rand.Rand, d api.Def, n int) []api.Cmd {
	s := []api.Cmd{start(0), start(1), start(2), start(3), sync()}[r.Intn(2):]
	for range n {
		switch r.Intn(30) {
		case 0, 1:
			s = append(s, crash(r.Intn(30)))
		case 2:
			s = append(s, sync())
		case 3, 4, 5, 6:
			s = append(s, fitting(r, d, s))
		case 7, 8, 9, 10, 11, 12:
			s = append(s, ask(r.Intn(4), 1+r.Intn(5), r.Intn(3), r.Intn(10)))
		case 13, 14, 15, 16:
			s = append(s, approve(1+r.Intn(12), r.Intn(10)))
		case 17, 18:
			s = append(s, tick(1+r.Intn(3)))
		default:
			s = append(s, likelyCmd(r))
		}
		s[len(s)-1].Dry = r.Intn(8) == 0
	}
	return s
}

// fitting is a reply to a key that is out behind the script, if there is one.
func fitting(r *rand.Rand, d api.Def, s []api.Cmd) api.Cmd {
	w, _ := saga.State(d, s)
	for _, i := range w.Instances {
		if i.Key != 0 {
			return api.Cmd{Kind: api.Reply, Inst: i.Id, A: i.Key, B: r.Intn(4)}
		}
	}
	return pick(r.Intn(4))
}

func TestCrashInAnyScript(t *testing.T) {
	r := rand.New(rand.NewSource(8))
	for range 300 {
		d := likelyDef(r)
		s := crashing(r, d, 100)
		p := answered(t, d, s)
		p.expectKept(t, d)
		w, _ := saga.State(d, s)
		expectWhole(t, d, w)
		if t.Failed() {
			t.Fatalf("P9: %+v, %+v", d, s)
		}
	}
}

// Many crashes behind a long journal do not read it over and over.
func TestManyCrashes(t *testing.T) {
	s := []api.Cmd{start(1), start(2), start(3), start(4)}
	for range 9000 {
		s = append(s, tick(1), pick(1), pick(2), pick(3), pick(4))
	}
	for range 100000 {
		s = append(s, tick(1), crash(0))
	}
	d := steps(1, api.Step{Timeout: 1})
	w, e := saga.State(d, s)
	j, n, f := saga.Journal(d, s)
	if e != api.OK || f != api.OK || w.Clock != 9000 || len(j) != 8*(4+9000*5) || n != len(j) {
		t.Errorf("P5, P6: clock %d, %d bytes, %d safe", w.Clock, len(j), n)
	}
	expectRecover(t, d, j, w, len(j))
}
