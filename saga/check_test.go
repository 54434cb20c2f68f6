package saga_test

import (
	"math"
	"testing"

	"saga/api"
	"saga/saga"
)

// expectDef tries every call with a definition.
func expectDef(t *testing.T, what string, d api.Def, want api.Errno) {
	t.Helper()
	if e := saga.Check(d); e != want {
		t.Errorf("P3: %s: Check: %d, want %d", what, e, want)
	}
	script := []api.Cmd{tick(3), start(1), pick(1)}
	answers, e := saga.Run(d, script)
	if e != want {
		t.Errorf("P4: %s: Run: %d, want %d", what, e, want)
	}
	w, f := saga.State(d, script)
	if f != want {
		t.Errorf("P5: %s: State: %d, want %d", what, f, want)
	}
	j, n, g := saga.Journal(d, script)
	if g != want {
		t.Errorf("P6: %s: Journal: %d, want %d", what, g, want)
	}
	disk := record("\x01\x01\x00\x00\x00") + record("\x04\x00\x03\x00\x00")
	v, m, h := saga.Recover(d, disk)
	if h != want {
		t.Errorf("P7: %s: Recover: %d, want %d", what, h, want)
	}
	if want == api.OK {
		return
	}
	if j != "" || n != 0 || m != 0 || v.Clock != 0 || len(v.Instances) != 0 || len(v.Requests) != 0 {
		t.Errorf("P1: %s: with an error: %q, %d, %+v, %d", what, j, n, v, m)
	}
	if len(answers) != 0 || w.Clock != 0 || len(w.Instances) != 0 || len(w.Requests) != 0 {
		t.Errorf("P1: %s: with an error: %v, %+v", what, answers, w)
	}
}

func code(fits bool) api.Errno {
	if fits {
		return api.OK
	}
	return api.ErrDef
}

func TestDefinitionNumbers(t *testing.T) {
	numbers := []int{math.MinInt, math.MinInt32, -1, 0, 1, 2, 3, 4, 5, 6, 7, 19, 20, 21, 22, 49, 50, 51, 52, 255, 256, 257, 1 << 32, math.MaxInt}
	for _, n := range numbers {
		d := two()
		d.Quorum = n
		expectDef(t, "Quorum "+text(n), d, code(n >= 0 && n <= 3))
		d = two()
		d.Expiry = n
		expectDef(t, "Expiry "+text(n), d, code(n >= 1 && n <= 50))
		for k := range api.MaxSteps {
			d = steps(6, api.Step{Timeout: 1})
			d.Steps[k].Retries = n
			expectDef(t, "Retries "+text(n), d, code(n >= 0 && n <= 3))
			d = steps(6, api.Step{Timeout: 1})
			d.Steps[k].Timeout = n
			expectDef(t, "Timeout "+text(n), d, code(n >= 1 && n <= 20))
		}
	}
}

func TestDefinitionSteps(t *testing.T) {
	for n := range 20 {
		expectDef(t, text(n)+" steps", steps(n, api.Step{Timeout: 1}), code(n >= 1 && n <= 6))
	}
	expectDef(t, "a hundred thousand steps", steps(100000, api.Step{Timeout: 1}), api.ErrDef)
	expectDef(t, "the zero definition", api.Def{}, api.ErrDef)
	for bits := range 64 {
		d := steps(6, api.Step{Timeout: 1})
		pivots := 0
		for k := range d.Steps {
			d.Steps[k].Pivot = bits>>k&1 == 1
			pivots += bits >> k & 1
		}
		expectDef(t, "pivots "+text(bits), d, code(pivots <= 1))
	}
}

// A pivot may be undoable or not: nothing is said against either.
func TestDefinitionUndo(t *testing.T) {
	for _, undo := range []bool{false, true} {
		expectDef(t, "undo", steps(1, api.Step{Undo: undo, Pivot: true, Timeout: 20, Retries: 3}), api.OK)
	}
}
