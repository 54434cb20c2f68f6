package saga_test

import (
	"math"
	"slices"
	"strings"
	"testing"

	"saga/api"
	"saga/saga"
)

func TestNoJournalAtTheBeginning(t *testing.T) {
	expectJournal(t, two(), nil, "", 0)
	expectJournal(t, two(), []api.Cmd{sync()}, "", 0)
	expectJournal(t, two(), []api.Cmd{crash(0), crash(5), sync(), crash(-1)}, "", 0)
}

// last is the record that the last command of a script writes, the bytes of
// the others ahead of it.
func last(t *testing.T, d api.Def, s []api.Cmd) string {
	t.Helper()
	ahead, _, e := saga.Journal(d, s[:len(s)-1])
	j, _, f := saga.Journal(d, s)
	rest, found := strings.CutPrefix(j, ahead)
	if e != api.OK || f != api.OK || !found {
		t.Fatalf("P6: Journal: % x, %d, want % x, 0, and more", j, f, ahead)
	}
	return rest
}

// written is a command behind a play, and its record.
type written struct {
	d     api.Def
	ahead play
	c     api.Cmd
	want  string
}

func records() []written {
	begun, three := lines(line{start(7), ok}), forwardTo(3)
	out := begun.with(line{pick(7), do(1, 0)})
	back := three.with(line{ask(7, api.Abort, 0, 1), number(1)})
	stuck := three.with(line{pick(7), do(4, 3)}, line{bad(7, 4), ok})
	asks := askedTimes(40)
	none := lines()
	say := func(c api.Cmd, reason string) api.Cmd {
		c.Reason = reason
		return c
	}
	return []written{
		{two(), none, start(7), "\x05\x01\x07\x00\x00\x00\x32\x00"},
		{two(), none, start(0), "\x05\x01\x00\x00\x00\x00\x24\x00"},
		{two(), none, start(255), "\x05\x01\xff\x00\x00\x00\x22\x02"},
		{two(), begun, pick(7), "\x05\x02\x07\x00\x00\x00\x33\x00"},
		{two(), lines(line{start(255), ok}), pick(255), "\x05\x02\xff\x00\x00\x00\x23\x02"},
		{two(), out, good(7, 1), "\x05\x03\x07\x01\x01\x00\x3b\x00"},
		{two(), out, bad(7, 1), "\x05\x03\x07\x01\x00\x00\x37\x00"},
		{withPivot(0), keysOut(30), good(7, 30), "\x05\x03\x07\x1e\x01\x00\x92\x00"},
		{two(), none, tick(3), "\x05\x04\x00\x03\x00\x00\x30\x00"},
		{two(), none, tick(1), "\x05\x04\x00\x01\x00\x00\x2a\x00"},
		{two(), none, tick(100), "\x05\x04\x00\x64\x00\x00\x53\x01"},
		{withPivot(0), stuck, say(ask(7, api.Retry, 3, 0), "r"), "\x06\x05\x07\x01\x00\x00r\xec\x02"},
		{four(), three, say(ask(7, api.Assume, 3, 9), "r"), "\x06\x05\x07\x02\x00\x09r\x1c\x03"},
		{four(), back, say(ask(7, api.Waive, 1, 9), "r"), "\x06\x05\x07\x03\x00\x09r\x1f\x03"},
		{four(), three, say(ask(7, api.Abort, 1, 9), "r"), "\x06\x05\x07\x04\x00\x09r\x22\x03"},
		{four(), three, say(ask(7, api.Rewind, 0, 9), "r"), "\x06\x05\x07\x05\x00\x09r\x25\x03"},
		{four(), three, say(ask(7, api.Rewind, 2, 9), "r"), "\x06\x05\x07\x05\x02\x09r\x2d\x03"},
		{four(), three, say(ask(7, api.Abort, 0, 1), "\x00"), "\x06\x05\x07\x04\x00\x01\x00\x4e\x00"},
		{four(), three, say(ask(7, api.Abort, 0, 1), "\x00\xff\n\x05\x80"), "\x0a\x05\x07\x04\x00\x01\x00\xff\n\x05\x80\xe0\x0c"},
		{four(), three, say(ask(7, api.Abort, 0, 1), strings.Repeat("\x00", 20)), "\x19\x05\x07\x04\x00\x01" + strings.Repeat("\x00", 20) + "\xd3\x00"},
		{four(), three, say(ask(7, api.Abort, 0, 1), strings.Repeat("\xff", 20)), "\x19\x05\x07\x04\x00\x01" + strings.Repeat("\xff", 20) + "\xac\x35"},
		{quorum(1), asks, approve(1, 0), "\x05\x06\x00\x01\x00\x00\x2c\x00"},
		{quorum(1), asks, approve(40, 9), "\x05\x06\x00\x28\x00\x09\xce\x00"},
		{quorum(1), asks, withdraw(1, 1), "\x05\x07\x00\x01\x00\x01\x32\x00"},
		{quorum(1), asks, withdraw(40, 1), "\x05\x07\x00\x28\x00\x01\xa7\x00"},
	}
}

// keysOut is a play that has given out n keys, all but the first for step 1,
// which has failed as often and was tried anew.
func keysOut(n int) play {
	p := forwardTo(1)
	for key := 2; key <= n; key++ {
		p.add(line{pick(7), do(key, 1)})
		if key < n {
			p.add(line{bad(7, key), ok}, line{ask(7, api.Retry, 0, 1), number(key - 1)})
		}
	}
	return p
}

// fields are the numbers of a command.
func fields(c *api.Cmd) []*int { return []*int{&c.Inst, &c.A, &c.B, &c.Who} }

// unnamed tells for each of the fields whether the command does not name it.
func unnamed(c api.Cmd) []bool {
	switch c.Kind {
	case api.Start, api.Pick:
		return []bool{false, true, true, true}
	case api.Reply:
		return []bool{false, false, false, true}
	case api.Tick:
		return []bool{true, false, true, true}
	case api.Ask:
		return []bool{false, false, c.A != api.Rewind, false}
	}
	return []bool{true, false, true, false}
}

func TestRecords(t *testing.T) {
	for _, w := range records() {
		w.ahead.expectAnswers(t, w.d)
		for _, n := range []int{math.MinInt, -1, 0, 1, 2, 255, 256, 1 << 32, math.MaxInt} {
			for _, reason := range []string{"", "r", strings.Repeat("long", 200)} {
				c := w.c
				for k, free := range unnamed(c) {
					if free {
						*fields(&c)[k] = n
					}
				}
				if c.Kind == api.Reply && c.B != 1 && n != 1 {
					c.B = n
				}
				if c.Kind != api.Ask {
					c.Reason = reason
				}
				got := last(t, w.d, append(slices.Clone(w.ahead.cmds), c))
				if got != w.want {
					t.Errorf("P6: %+v: % x, want % x", c, got, w.want)
				}
			}
		}
	}
}

// heavy is a reason that makes the sum, ahead of its remainder, this one.
func heavy(t *testing.T, c api.Cmd, total int) string {
	t.Helper()
	b := []byte(bodyOf(c))[:5]
	left := total - 7*25
	for k, x := range b {
		left -= (k + 1) * int(x)
	}
	reason := make([]byte, 20)
	for k := 19; k >= 2; k-- {
		// So much is left for the two first that they can make any of it up.
		n := min(255, max(0, left-50)/(k+6))
		reason[k] = byte(n)
		left -= n * (k + 6)
	}
	for x := range 256 {
		if y := (left - 6*x) / 7; y >= 0 && y < 256 && 6*x+7*y == left {
			reason[0], reason[1] = byte(x), byte(y)
			return string(reason)
		}
	}
	t.Fatalf("no reason for %d", total)
	return ""
}

// The sum about the edges of its bytes and of its remainder.
func TestSums(t *testing.T) {
	c := ask(7, api.Assume, 0, 9)
	for total, want := range map[int]string{
		511: "\xff\x01", 512: "\x00\x02", 32767: "\xff\x7f", 32768: "\x00\x80", 65279: "\xff\xfe", 65280: "\x00\xff",
		65519: "\xef\xff", 65520: "\xf0\xff", 65521: "\x00\x00", 65522: "\x01\x00", 65535: "\x0e\x00", 65536: "\x0f\x00", 65537: "\x10\x00", 65776: "\xff\x00", 65777: "\x00\x01", 79000: "\xa7\x34",
	} {
		c.Reason = heavy(t, c, total)
		got := last(t, two(), []api.Cmd{start(7), c})
		if want := "\x19" + bodyOf(c) + want; got != want {
			t.Errorf("P6: a sum of %d: % x, want % x", total, got, want)
		}
		p := lines(line{start(7), ok}, line{c, number(1)})
		p.expectOne(t, two(), 0, api.Instance{Id: 7, Mode: api.Forward, Settled: 1, Ledger: []api.Entry{entry(2, 0, 1)}}, closed(asked(1, c, 10)))
	}
}

// Behind each other, in their order, whatever is refused or Dry between.
func TestNotInTheJournal(t *testing.T) {
	one, three, key := record("\x01\x07\x00\x00\x00"), record("\x04\x00\x03\x00\x00"), record("\x02\x07\x00\x00\x00")
	refused := []api.Cmd{start(7), start(-1), start(256), tick(0), tick(101), pick(8), good(7, 5), bad(8, 1), ask(7, api.Waive, 0, 1), ask(7, 6, 0, 1), ask(8, api.Abort, 0, 1), approve(1, 1), withdraw(1, 1), {}, {Kind: -1}, {Kind: 10}, {Kind: 257}, crash(-1), crash(math.MinInt)}
	dries := []api.Cmd{dry(start(8)), dry(tick(1)), dry(ask(7, api.Abort, 0, 1)), dry(ask(7, api.Assume, 0, 1))}
	none := slices.Concat(refused, dries)
	for _, c := range none {
		expectJournal(t, two(), []api.Cmd{start(7), c, tick(3), c}, one+three, 0)
	}
	expectJournal(t, two(), slices.Concat([]api.Cmd{start(7)}, none, []api.Cmd{tick(3)}, none, []api.Cmd{pick(7)}, none), one+three+key, 24)
	expectJournal(t, two(), []api.Cmd{start(7), dry(pick(7)), sync(), tick(3), dry(pick(7)), dry(pick(8)), pick(7), dry(good(7, 1)), dry(pick(7)), pick(7)}, one+three+key, 24)
	expectJournal(t, two(), []api.Cmd{dry(start(7)), dry(tick(3)), sync(), crash(0)}, "", 0)
	expectJournal(t, two(), []api.Cmd{start(7), sync(), crash(9), sync(), tick(3), crash(9), sync()}, one+three, 16)
}

func TestSafe(t *testing.T) {
	begun := []api.Cmd{start(7), tick(3)}
	for _, c := range []struct {
		what string
		d    api.Def
		s    []api.Cmd
		safe int
	}{
		{"at first", two(), nil, 0},
		{"behind SYNC", two(), []api.Cmd{sync()}, 16},
		{"behind a Dry SYNC", two(), []api.Cmd{dry(sync())}, 16},
		{"SYNC with anything", two(), []api.Cmd{{Kind: api.Sync, Inst: -5, A: -1, B: 300, Who: 99, Reason: "r"}}, 16},
		{"SYNC, and more", two(), []api.Cmd{sync(), tick(1), start(8)}, 16},
		{"SYNC twice", two(), []api.Cmd{sync(), tick(1), sync(), sync(), tick(1)}, 24},
		{"behind a PICK", two(), []api.Cmd{pick(7)}, 24},
		{"a PICK, and more", two(), []api.Cmd{pick(7), good(7, 1), tick(1)}, 24},
		{"a PICK of an unknown Id", two(), []api.Cmd{pick(8)}, 0},
		{"a Dry PICK", two(), []api.Cmd{dry(pick(7))}, 0},
		{"a PICK that is busy", two(), []api.Cmd{pick(7), tick(4), pick(7)}, 24},
		{"asked for again", two(), []api.Cmd{pick(7), tick(5), pick(7), tick(1)}, 40},
		{"asked for again, Dry", two(), []api.Cmd{pick(7), tick(5), dry(pick(7)), tick(1)}, 24},
		{"a PICK that waits", steps(2, api.Step{Undo: true, Timeout: 5, Retries: 1}), []api.Cmd{pick(7), bad(7, 1), pick(7)}, 24},
		{"a PICK of what is over", two(), []api.Cmd{ask(7, api.Abort, 0, 1), pick(7)}, 0},
		{"a PICK of another", two(), []api.Cmd{pick(7), good(7, 1), start(8), tick(1), pick(8), good(8, 1)}, 56},
		{"a PICK of an undo", two(), []api.Cmd{pick(7), good(7, 1), pick(7), bad(7, 2), tick(1), pick(7)}, 64},
		{"no undo", steps(2, api.Step{Timeout: 5}), []api.Cmd{pick(7), good(7, 1), pick(7), bad(7, 2), tick(1), pick(7)}, 40},
		{"all else", quorum(1), []api.Cmd{ask(7, api.Abort, 0, 1), withdraw(1, 1), ask(7, api.Abort, 0, 1), approve(2, 2), start(9)}, 0},
		{"CRASH that is refused", two(), []api.Cmd{crash(-1)}, 0},
	} {
		_, n, e := saga.Journal(c.d, slices.Concat(begun, c.s))
		if e != api.OK || n != c.safe {
			t.Errorf("P6: %s: %d safe, %d, want %d, 0", c.what, n, e, c.safe)
		}
	}
}

// A key for which there are none left makes nothing safe.
func TestSafeWhenKeysAreFull(t *testing.T) {
	p := keysOut(30)
	p.add(line{bad(7, 30), ok}, line{ask(7, api.Retry, 0, 1), number(29)}, line{sync(), ok}, line{tick(1), ok}, line{pick(7), no(api.ErrFull)})
	p.expectAnswers(t, withPivot(0))
	j, n, _ := saga.Journal(withPivot(0), p.cmds)
	if n != len(j)-8 {
		t.Errorf("P6: %d safe of %d", n, len(j))
	}
}

// All the journals of the beginnings of a play.
func TestJournalsOfBeginnings(t *testing.T) {
	p := wide()
	for n := range len(p.cmds) + 1 {
		q := lines(p.pairs()[:n]...)
		k := q.disk()
		expectJournal(t, quorum(2), q.cmds, k.bytes, k.safe)
	}
}
