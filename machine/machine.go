// Package machine runs commands on a world, keeps the journal of it, and
// crashes.
package machine

import (
	"saga/api"
	"saga/journal"
	"saga/world"
)

// Machine is at the beginning as its zero value is.
type Machine struct {
	World   api.World
	Journal []byte
	Safe    int // how many bytes of the journal are safe

	read     int       // how many bytes were read in the last crash
	readBack api.World // the world that they make
}

// Do answers a command, and carries it out. The definition must have passed
// saga.Check, and be the same for all commands.
func (m *Machine) Do(d api.Def, c api.Cmd) api.Answer {
	switch c.Kind {
	case api.Sync:
		m.Safe = len(m.Journal)
		return api.Answer{}
	case api.Crash:
		return m.crash(d, c.A)
	}
	a := world.Do(d, &m.World, c)
	if a.Code == api.OK && !c.Dry {
		m.write(c)
	}
	return a
}

// write makes a PICK safe, so that no key is lost that was given out.
func (m *Machine) write(c api.Cmd) {
	r := journal.Record(c)
	m.Journal = append(m.Journal, r...)
	if c.Kind == api.Pick {
		m.Safe = len(m.Journal)
	}
}

func (m *Machine) crash(d api.Def, stay int) api.Answer {
	if stay < 0 {
		return api.Answer{Code: api.ErrRange}
	}
	m.lose(stay)
	m.readOn(d)
	m.cut(m.read)
	m.Safe = m.read
	m.World = world.Copy(&m.readBack)
	return api.Answer{}
}

// lose compares ahead of the sum, which could overflow otherwise.
func (m *Machine) lose(stay int) {
	if stay < len(m.Journal)-m.Safe {
		m.cut(m.Safe + stay)
	}
}

// readOn begins where the last crash ended: what was read then is safe, and
// would be read as the same world again. Else many crashes behind a long
// journal would each read all of it.
func (m *Machine) readOn(d api.Def) {
	if m.read > len(m.Journal) {
		return
	}
	rest := string(m.Journal[m.read:])
	more := journal.Read(d, &m.readBack, rest)
	m.read += more
}

func (m *Machine) cut(size int) {
	if size >= 0 && size <= len(m.Journal) {
		m.Journal = m.Journal[:size]
	}
}
