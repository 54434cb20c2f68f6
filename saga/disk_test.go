package saga_test

import (
	"fmt"
	"testing"

	"saga/api"
	"saga/saga"
)

// record lays the length and the sum around a body.
func record(body string) string {
	n := 7 * len(body)
	for k := range len(body) {
		n += (k + 1) * int(body[k])
	}
	n %= 65521
	return string([]byte{byte(len(body))}) + body + string([]byte{byte(n), byte(n >> 8)})
}

// bodyOf is the body of a command that was answered with OK.
func bodyOf(c api.Cmd) string {
	b := [5]int{c.Kind}
	switch c.Kind {
	case api.Start, api.Pick:
		b[1] = c.Inst
	case api.Reply:
		b[1], b[2] = c.Inst, c.A
		if c.B == 1 {
			b[3] = 1
		}
	case api.Tick:
		b[2] = c.A
	case api.Ask:
		b[1], b[2], b[4] = c.Inst, c.A, c.Who
		if c.A == api.Rewind {
			b[3] = c.B
		}
	case api.Approve, api.Withdraw:
		b[2], b[4] = c.A, c.Who
	}
	var s []byte
	for _, n := range b {
		s = append(s, byte(n))
	}
	if c.Kind == api.Ask {
		s = append(s, c.Reason...)
	}
	return string(s)
}

// disk is what a script leaves behind, told from its answers alone: which
// commands are kept, and the journal of them.
type disk struct {
	kept  []api.Cmd
	ends  []int // where the record of each ends
	bytes string
	safe  int
}

func (k *disk) add(c api.Cmd, a api.Answer) {
	switch {
	case a.Code != api.OK:
	case c.Kind == api.Sync:
		k.safe = len(k.bytes)
	case c.Kind == api.Crash:
		k.crash(c.A)
	case !c.Dry:
		k.kept = append(k.kept, c)
		k.bytes += record(bodyOf(c))
		k.ends = append(k.ends, len(k.bytes))
		if c.Kind == api.Pick {
			k.safe = len(k.bytes)
		}
	}
}

func (k *disk) crash(a int) {
	stay := len(k.bytes)
	if a < stay-k.safe {
		stay = k.safe + a
	}
	n, size := k.whole(stay)
	k.kept, k.ends, k.bytes, k.safe = k.kept[:n], k.ends[:n], k.bytes[:size], size
}

// whole tells how many records are whole in the first n bytes, and how many
// bytes those have.
func (k *disk) whole(n int) (int, int) {
	count, size := 0, 0
	for _, end := range k.ends {
		if end <= n {
			count++
			size = end
		}
	}
	return count, size
}

func (p *play) disk() disk {
	var k disk
	for n := range p.cmds {
		k.add(p.cmds[n], p.answers[n])
	}
	return k
}

// hex shows the first bytes of a disk, however many there are.
func hex(disk string) string {
	return fmt.Sprintf("%d bytes: % x", len(disk), disk[:min(len(disk), 300)])
}

func expectJournal(t *testing.T, d api.Def, s []api.Cmd, want string, safe int) {
	t.Helper()
	j, n, e := saga.Journal(d, s)
	if e != api.OK || j != want || n != safe {
		t.Errorf("P6: Journal:\n%s, %d safe, %d, want\n%s, %d safe, 0", hex(j), n, e, hex(want), safe)
	}
}

func expectRecover(t *testing.T, d api.Def, disk string, want api.World, read int) {
	t.Helper()
	w, n, e := saga.Recover(d, disk)
	if e != api.OK || n != read || text(w) != text(want) {
		t.Errorf("P7: Recover of %s:\n%s, %d read, %d, want\n%s, %d read, 0", hex(disk), text(w), n, e, text(want), read)
	}
}

// expectRead is for bytes that are read like those of a journal of its own.
func expectRead(t *testing.T, d api.Def, disk string, like []api.Cmd, read int) {
	t.Helper()
	w, e := saga.State(d, like)
	if e != api.OK {
		t.Fatalf("P5: %d", e)
	}
	expectRecover(t, d, disk, w, read)
}
