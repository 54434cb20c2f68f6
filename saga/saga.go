// Package saga runs jobs in steps: see DOC.md.
package saga

import (
	"saga/api"
	"saga/journal"
	"saga/machine"
)

// Check tells whether a definition is one (P3).
func Check(d api.Def) api.Errno {
	if !isDefinition(d) {
		return api.ErrDef
	}
	return api.OK
}

// Run tells the answers to a script (P4).
func Run(d api.Def, script []api.Cmd) ([]api.Answer, api.Errno) {
	code := Check(d)
	if code != api.OK {
		return nil, code
	}
	var m machine.Machine
	var answers []api.Answer
	for k := 0; k < len(script); k++ {
		a := m.Do(d, script[k])
		answers = append(answers, a)
	}
	return answers, api.OK
}

// State tells the world behind a script (P5).
func State(d api.Def, script []api.Cmd) (api.World, api.Errno) {
	code := Check(d)
	if code != api.OK {
		return api.World{}, code
	}
	m := behind(d, script)
	return m.World, api.OK
}

// Journal tells the journal behind a script, and how much of it is safe (P6).
func Journal(d api.Def, script []api.Cmd) (string, int, api.Errno) {
	code := Check(d)
	if code != api.OK {
		return "", 0, code
	}
	m := behind(d, script)
	return string(m.Journal), m.Safe, api.OK
}

// Recover reads a journal (P7).
func Recover(d api.Def, disk string) (api.World, int, api.Errno) {
	code := Check(d)
	if code != api.OK {
		return api.World{}, 0, code
	}
	var w api.World
	read := journal.Read(d, &w, disk)
	return w, read, api.OK
}

// behind is the machine behind a script.
func behind(d api.Def, script []api.Cmd) machine.Machine {
	var m machine.Machine
	for k := 0; k < len(script); k++ {
		m.Do(d, script[k])
	}
	return m
}
