package world

import "saga/api"

func isOver(inst *api.Instance) bool {
	return inst.Mode == api.Done || inst.Mode == api.Undone
}

func nextStep(inst *api.Instance) int {
	if inst.Mode == api.Back {
		return inst.Settled - 1
	}
	return inst.Settled
}

// step has an answer for every number, so that no index can go astray.
func step(d api.Def, number int) api.Step {
	if number < 0 || number >= len(d.Steps) {
		return api.Step{}
	}
	return d.Steps[number]
}

// floor is the lowest number of settled steps that there is a way back to.
func floor(d api.Def, inst *api.Instance) int {
	for k := 0; k < len(d.Steps) && k < inst.Settled; k++ {
		if d.Steps[k].Pivot {
			return k + 1
		}
	}
	return 0
}

func isPivotBehind(d api.Def, inst *api.Instance) bool {
	return floor(d, inst) > 0
}

func dropKey(inst *api.Instance) {
	inst.Key = 0
	inst.Due = 0
}

// beginAnew lays the instance at something new.
func beginAnew(clock int, inst *api.Instance) {
	dropKey(inst)
	inst.Tries = 0
	inst.Stuck = false
	inst.Wake = clock
}

// settle enters the next step of an instance that goes forward as settled.
func settle(d api.Def, clock int, inst *api.Instance, kind, ref int) {
	e := api.Entry{Kind: kind, Step: nextStep(inst), Ref: ref}
	inst.Ledger = append(inst.Ledger, e)
	inst.Settled++
	beginAnew(clock, inst)
	if inst.Settled == len(d.Steps) {
		inst.Mode = api.Done
	}
}

// takeBack enters the next step of an instance that goes back as settled no
// more.
func takeBack(clock int, inst *api.Instance, kind, ref int) {
	e := api.Entry{Kind: kind, Step: nextStep(inst), Ref: ref}
	inst.Ledger = append(inst.Ledger, e)
	inst.Settled--
	beginAnew(clock, inst)
	if inst.Settled == inst.Target {
		arrive(inst)
	}
}

// arrive ends the way back at its Target.
func arrive(inst *api.Instance) {
	inst.Mode = api.Undone
	if inst.Resume {
		inst.Mode = api.Forward
	}
	inst.Target = 0
	inst.Resume = false
}

func goBack(clock int, inst *api.Instance, target int, resume bool) {
	beginAnew(clock, inst)
	inst.Mode = api.Back
	inst.Target = target
	inst.Resume = resume
}

func abort(clock int, inst *api.Instance) {
	goBack(clock, inst, 0, false)
	if inst.Settled == 0 {
		inst.Mode = api.Undone
	}
}
