// Package journal writes commands as records, and reads them.
package journal

import "saga/api"

// Record is for commands that were answered with OK: their numbers have room
// in a byte each.
func Record(c api.Cmd) []byte {
	b := body(c)
	s := sum(b)
	r := []byte{byte(len(b))}
	r = append(r, b...)
	r = append(r, byte(s%256), byte(s/256))
	return r
}

func body(c api.Cmd) []byte {
	n := named(c)
	b := []byte{byte(n.Kind), byte(n.Inst), byte(n.A), byte(n.B), byte(n.Who)}
	b = append(b, n.Reason...)
	return b
}

// named leaves away what a command does not name, so that all commands that
// do the same have the same record.
func named(c api.Cmd) api.Cmd {
	n := api.Cmd{Kind: c.Kind}
	switch c.Kind {
	case api.Start, api.Pick:
		n.Inst = c.Inst
	case api.Reply:
		n.Inst = c.Inst
		n.A = c.A
		if c.B == 1 {
			n.B = 1
		}
	case api.Tick:
		n.A = c.A
	case api.Ask:
		n.Inst = c.Inst
		n.A = c.A
		if c.A == api.Rewind {
			n.B = c.B
		}
		n.Who = c.Who
		n.Reason = c.Reason
	case api.Approve, api.Withdraw:
		n.A = c.A
		n.Who = c.Who
	}
	return n
}

func sum(body []byte) int {
	n := 7 * len(body)
	for k := 0; k < len(body); k++ {
		n += (k + 1) * int(body[k])
	}
	return n % 65521
}
