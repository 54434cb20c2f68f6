package saga_test

import (
	"math/rand"
	"strings"
	"testing"

	"saga/api"
	"saga/saga"
)

func TestRecoverNothing(t *testing.T) {
	expectRecover(t, two(), "", api.World{}, 0)
}

// every is plays whose records are of all Kinds and of several sizes.
func every() []play {
	long := ask(7, api.Assume, 0, 9)
	long.Reason = strings.Repeat("\xff", 20)
	p := lines(line{start(7), ok}, line{start(255), ok}, line{pick(255), do(1, 0)}, line{tick(100), ok}, line{pick(255), do(1, 0)}, line{long, number(1)}, line{ask(255, api.Abort, 0, 0), number(2)}, line{approve(1, 0), ok}, line{approve(1, 1), ok}, line{withdraw(2, 0), ok}, line{bad(255, 1), ok})
	return []play{wide(), p}
}

// A journal cut anywhere is read up to the last record that is whole.
func TestRecoverBeginnings(t *testing.T) {
	d := quorum(2)
	for _, p := range every() {
		k := p.disk()
		for n := range len(k.bytes) + 1 {
			count, size := k.whole(n)
			expectRead(t, d, k.bytes[:n], k.kept[:count], size)
		}
	}
}

// With one byte changed, it is read up to the record which that is in.
func TestRecoverAnyByteChanged(t *testing.T) {
	d := quorum(2)
	for _, p := range every() {
		k := p.disk()
		for n := range len(k.bytes) {
			count, size := k.whole(n)
			want, _ := saga.State(d, k.kept[:count])
			for b := range 256 {
				if byte(b) == k.bytes[n] {
					continue
				}
				changed := k.bytes[:n] + string([]byte{byte(b)}) + k.bytes[n+1:]
				w, read, e := saga.Recover(d, changed)
				if e != api.OK || read != size || text(w) != text(want) {
					t.Fatalf("P7: byte %d is %d: %d read, want %d:\n%+v, want\n%+v", n, b, read, size, w, want)
				}
			}
		}
	}
}

// Whatever stands behind the last record, if it is none, is not read.
func TestRecoverBytesBehind(t *testing.T) {
	d := quorum(2)
	p := wide()
	k := p.disk()
	r := rand.New(rand.NewSource(9))
	for b := range 256 {
		expectRead(t, d, k.bytes+string([]byte{byte(b)}), k.kept, len(k.bytes))
		expectRead(t, d, k.bytes+strings.Repeat(string([]byte{byte(b)}), 300), k.kept, len(k.bytes))
		rubbish := make([]byte, r.Intn(400))
		r.Read(rubbish)
		expectRead(t, d, k.bytes+string(rubbish), k.kept, len(k.bytes))
	}
}

// What comes behind a record that cannot be read is not read either.
func TestRecoverEndsAtTheFirstOne(t *testing.T) {
	one, three := record("\x01\x07\x00\x00\x00"), record("\x04\x00\x03\x00\x00")
	for _, no := range []string{"\x00", "\x05", "\xff", record(""), record("\x04\x00\x03\x00"), record("\x08\x00\x00\x00\x00"), record("\x04\x00\x03\x00\x01"), record("\x04\x00\x00\x00\x00"), one, one[:7], "\x05\x04\x00\x03\x00\x00\x31\x00"} {
		expectRead(t, two(), one+no+three, []api.Cmd{start(7)}, 8)
		expectRead(t, two(), one+three+no+three+three, []api.Cmd{start(7), tick(3)}, 16)
	}
	for _, no := range []string{"\x00", "\xff", record("\x02\x07\x00\x00\x00"), one[1:]} {
		expectRead(t, two(), no+one+three, nil, 0)
	}
}

// An L below 5, with the right sum for it.
func TestRecoverShortBodies(t *testing.T) {
	three := record("\x04\x00\x03\x00\x00")
	for kind := range 256 {
		body := string([]byte{byte(kind)}) + "\x07\x03\x01"
		for n := range 5 {
			expectRead(t, two(), three+record(body[:n])+three, []api.Cmd{tick(3)}, 8)
		}
	}
}

// The sum alone is wrong.
func TestRecoverSums(t *testing.T) {
	one := record("\x01\xff\x00\x00\x00")
	for n := range 1 << 16 {
		sum := string([]byte{byte(n), byte(n >> 8)})
		want := 0
		if sum == one[6:] {
			want = 8
		}
		_, read, e := saga.Recover(two(), one[:6]+sum)
		if e != api.OK || read != want {
			t.Fatalf("P7: a sum of %d: %d read, want %d", n, read, want)
		}
	}
	// A sum that is right but for its remainder.
	body := "\x05\x07\x02\x00\x09" + heavy(t, ask(7, api.Assume, 0, 9), 65521)
	p := lines(line{start(7), ok}, line{ask(7, api.Assume, 0, 9), number(1)})
	p.cmds[1].Reason = body[5:]
	k := p.disk()
	expectRead(t, two(), k.bytes, k.kept, len(k.bytes))
	expectRead(t, two(), k.bytes[:len(k.bytes)-2]+"\xf1\xff", k.kept[:1], 8)
}

// A Kind that is not START to WITHDRAW, with any other bytes.
func TestRecoverKinds(t *testing.T) {
	one := record("\x01\x07\x00\x00\x00")
	for kind := range 256 {
		if kind >= api.Start && kind <= api.Withdraw {
			continue
		}
		for _, rest := range []string{"\x00\x00\x00\x00", "\x07\x00\x00\x00", "\x00\x01\x00\x00", "\x00\x00\x00\x01", "\x07\x01\x01\x01r", "\x00\x00\x00\x00r"} {
			body := string([]byte{byte(kind)}) + rest
			expectRead(t, two(), record(body), nil, 0)
			expectRead(t, two(), one+record(body)+record("\x04\x00\x03\x00\x00"), []api.Cmd{start(7)}, 8)
		}
	}
}

// A body with anything in what is not named is not as it would be written,
// though its sum is right and its command would be answered with OK.
func TestRecoverNotAsWritten(t *testing.T) {
	for _, w := range records() {
		ahead := w.ahead.disk()
		body := bodyOf(w.c)
		expectRead(t, w.d, ahead.bytes+record(body), append(ahead.kept, w.c), len(ahead.bytes)+len(body)+3)
		for k, free := range unnamed(w.c) {
			for b := 1; b < 256 && free; b++ {
				other := body[:k+1] + string([]byte{byte(b)}) + body[k+2:]
				expectRead(t, w.d, ahead.bytes+record(other), ahead.kept, len(ahead.bytes))
			}
		}
		if w.c.Kind == api.Ask {
			continue
		}
		for _, reason := range []string{"\x00", "r", strings.Repeat("r", 20), strings.Repeat("\x00", 250)} {
			expectRead(t, w.d, ahead.bytes+record(body+reason), ahead.kept, len(ahead.bytes))
		}
	}
}

// Of a REPLY B is 1 or 0, and of a REWIND it is the Target.
func TestRecoverB(t *testing.T) {
	p, three := lines(line{start(7), ok}, line{pick(7), do(1, 0)}), forwardTo(3)
	k, m := p.disk(), three.disk()
	for b := range 256 {
		body := "\x03\x07\x01" + string([]byte{byte(b)}) + "\x00"
		switch b {
		case 0:
			expectRead(t, two(), k.bytes+record(body), append(k.kept, bad(7, 1)), 24)
		case 1:
			expectRead(t, two(), k.bytes+record(body), append(k.kept, good(7, 1)), 24)
		default:
			expectRead(t, two(), k.bytes+record(body), k.kept, 16)
		}
		body = "\x05\x07\x05" + string([]byte{byte(b)}) + "\x01why"
		if b < 3 {
			expectRead(t, four(), m.bytes+record(body), append(m.kept, ask(7, api.Rewind, b, 1)), len(m.bytes)+11)
		} else {
			expectRead(t, four(), m.bytes+record(body), m.kept, len(m.bytes))
		}
	}
}

// As written, but refused in the world as it is.
func TestRecoverRefused(t *testing.T) {
	begun := lines(line{start(7), ok})
	out := begun.with(line{pick(7), do(1, 0)})
	full := lines(line{start(1), ok}, line{start(2), ok}, line{start(3), ok}, line{start(4), ok})
	made := begun.with(line{ask(7, api.Abort, 0, 4), number(1)}, line{ask(7, api.Assume, 0, 4), number(2)}, line{withdraw(2, 4), ok})
	var late play
	late.wait(10000)
	late.add(begun.pairs()...)
	for _, c := range []struct {
		ahead play
		body  string
	}{
		{begun, "\x01\x07\x00\x00\x00"}, {full, "\x01\x05\x00\x00\x00"},
		{begun, "\x02\x08\x00\x00\x00"}, {out, "\x02\x07\x00\x00\x00"},
		{begun, "\x03\x07\x00\x01\x00"}, {begun, "\x03\x07\x01\x01\x00"}, {out, "\x03\x07\x02\x01\x00"}, {out, "\x03\x08\x01\x00\x00"},
		{begun, "\x04\x00\x00\x00\x00"}, {begun, "\x04\x00\x65\x00\x00"}, {begun, "\x04\x00\xff\x00\x00"}, {late, "\x04\x00\x01\x00\x00"},
		{begun, "\x05\x08\x04\x00\x01r"}, {begun, "\x05\x07\x00\x00\x01r"}, {begun, "\x05\x07\x06\x00\x01r"}, {begun, "\x05\x07\x04\x00\x0ar"}, {begun, "\x05\x07\x04\x00\xffr"}, {begun, "\x05\x07\x04\x00\x01"}, {begun, "\x05\x07\x04\x00\x01" + strings.Repeat("r", 21)}, {begun, "\x05\x07\x04\x00\x01" + strings.Repeat("r", 250)}, {begun, "\x05\x07\x01\x00\x01r"}, {begun, "\x05\x07\x03\x00\x01r"}, {begun, "\x05\x07\x05\x00\x01r"},
		{made, "\x06\x00\x00\x00\x01"}, {made, "\x06\x00\x03\x00\x01"}, {made, "\x06\x00\x02\x00\x01"}, {made, "\x06\x00\x01\x00\x04"}, {made, "\x06\x00\x01\x00\x0a"},
		{made, "\x07\x00\x00\x00\x04"}, {made, "\x07\x00\x03\x00\x04"}, {made, "\x07\x00\x02\x00\x04"}, {made, "\x07\x00\x01\x00\x05"},
	} {
		k := c.ahead.disk()
		c.ahead.expectAnswers(t, quorum(2))
		expectRead(t, quorum(2), k.bytes+record(c.body)+record("\x04\x00\x01\x00\x00"), k.kept, len(k.bytes))
	}
	expectRead(t, two(), record("\x02\x07\x00\x00\x00"), nil, 0)
}

// The same bytes are another world by another definition.
func TestRecoverByTheDefinition(t *testing.T) {
	p := lines(line{start(7), ok}, line{abort, number(1)}, line{approve(1, 2), ok}, line{tick(1), ok})
	k := p.disk()
	expectRecover(t, quorum(2), k.bytes, api.World{Clock: 1, Instances: []api.Instance{fresh(7)}, Requests: []api.Request{asked(1, abort, 10, 2)}}, len(k.bytes))
	over := api.Instance{Id: 7, Mode: api.Undone}
	expectRecover(t, quorum(1), k.bytes, api.World{Clock: 1, Instances: []api.Instance{over}, Requests: []api.Request{closed(asked(1, abort, 10, 2))}}, len(k.bytes))
	expectRecover(t, quorum(0), k.bytes, api.World{Instances: []api.Instance{over}, Requests: []api.Request{closed(asked(1, abort, 10))}}, k.ends[1])
}

// likelyBytes is a journal, changed here and there, with right sums mostly.
func likelyBytes(r *rand.Rand, k disk) string {
	begin, s := 0, ""
	for _, end := range k.ends {
		b := []byte(k.bytes[begin:end])
		if r.Intn(40) == 0 {
			b[r.Intn(len(b))] = byte(r.Intn(256))
		}
		if r.Intn(20) == 0 {
			body := b[1 : len(b)-2]
			body[r.Intn(len(body))] = byte(r.Intn(10))
			b = []byte(record(string(body[:5+r.Intn(len(body)-4)])))
		}
		if r.Intn(60) > 0 {
			s += string(b)
		}
		begin = end
	}
	return s
}

// read is what P7 says, told with Run.
func read(d api.Def, disk string) ([]api.Cmd, int) {
	var s []api.Cmd
	at := 0
	for {
		rest := disk[at:]
		if len(rest) < 1 || int(rest[0]) < 5 || len(rest) < int(rest[0])+3 {
			return s, at
		}
		size := int(rest[0]) + 3
		b := rest[1 : size-2]
		c := api.Cmd{Kind: int(b[0]), Inst: int(b[1]), A: int(b[2]), B: int(b[3]), Who: int(b[4]), Reason: b[5:]}
		if record(b) != rest[:size] || c.Kind < api.Start || c.Kind > api.Withdraw || bodyOf(c) != b {
			return s, at
		}
		answers, _ := saga.Run(d, append(s, c))
		if answers[len(s)].Code != api.OK {
			return s, at
		}
		s = append(s, c)
		at += size
	}
}

func TestRecoverAnyJournal(t *testing.T) {
	r := rand.New(rand.NewSource(10))
	all := 0
	for range 400 {
		d := likelyDef(r)
		p := answered(t, d, crashing(r, d, 60))
		k := p.disk()
		disk := likelyBytes(r, k)
		s, n := read(d, disk)
		expectRead(t, d, disk, s, n)
		if n == len(disk) {
			all++
		}
		if t.Failed() {
			t.Fatalf("P7: %+v", d)
		}
	}
	if all < 40 || all > 360 {
		t.Errorf("%d of 400 are read whole", all)
	}
}

func TestRecoverAnyBytes(t *testing.T) {
	r := rand.New(rand.NewSource(11))
	for range 20000 {
		b := make([]byte, r.Intn(40))
		for k := range b {
			b[k] = byte(r.Intn(1 + r.Intn(256)))
		}
		disk := string(b)
		if r.Intn(2) == 0 && len(disk) > 0 {
			disk = record(disk)
		}
		s, n := read(two(), disk)
		expectRead(t, two(), disk, s, n)
	}
	for b := range 256 {
		all := strings.Repeat(string([]byte{byte(b)}), 1000)
		expectRead(t, two(), all, nil, 0)
	}
}

// A great many bytes end, too: those of a long journal and those of rubbish.
func TestRecoverLong(t *testing.T) {
	ticks := strings.Repeat(record("\x04\x00\x01\x00\x00"), 20000)
	expectRecover(t, two(), ticks, api.World{Clock: 10000}, 80000)
	expectRecover(t, two(), strings.Repeat("\xff", 1<<24), api.World{}, 0)
	expectRecover(t, two(), strings.Repeat("\x00", 1<<24), api.World{}, 0)
}

// What was read goes on as if there had been no end.
func TestRecoverIsWhatACrashReads(t *testing.T) {
	r := rand.New(rand.NewSource(12))
	for range 100 {
		d := likelyDef(r)
		s := crashing(r, d, 60)
		j, safe, _ := saga.Journal(d, s)
		n := r.Intn(60)
		w, read, _ := saga.Recover(d, j[:min(len(j), safe+n)])
		more := append(s, crash(n))
		v, _ := saga.State(d, more)
		after, all, _ := saga.Journal(d, more)
		if text(v) != text(w) || after != j[:read] || all != read {
			t.Fatalf("P7, P9: %+v: CRASH %d:\n%+v, %d bytes, %d safe, want\n%+v, %d", s, n, v, len(after), all, w, read)
		}
	}
}
