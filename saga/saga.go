// Package saga runs jobs in steps: see DOC.md.
package saga

import (
	"saga/api"
	"saga/world"
)

// Check tells whether a definition is one (P3).
func Check(d api.Def) api.Errno {
	if !isDefinition(d) {
		return api.ErrDef
	}
	return api.OK
}

// Run tells the answers to a script (P4).
func Run(d api.Def, script []api.Cmd) ([]api.Answer, api.Errno) {
	code := Check(d)
	if code != api.OK {
		return nil, code
	}
	var w api.World
	var answers []api.Answer
	for k := 0; k < len(script); k++ {
		a := world.Do(d, &w, script[k])
		answers = append(answers, a)
	}
	return answers, api.OK
}

// State tells the world behind a script (P5).
func State(d api.Def, script []api.Cmd) (api.World, api.Errno) {
	var w api.World
	code := Check(d)
	if code != api.OK {
		return w, code
	}
	for k := 0; k < len(script); k++ {
		world.Do(d, &w, script[k])
	}
	return w, api.OK
}

// Journal tells the journal behind a script, and how much of it is safe (P6).
func Journal(d api.Def, script []api.Cmd) (string, int, api.Errno) { return "", 0, api.OK }

// Recover reads a journal (P7).
func Recover(d api.Def, disk string) (api.World, int, api.Errno) { return api.World{}, 0, api.OK }
