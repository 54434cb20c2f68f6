package world

import "saga/api"

func pickAnswer(d api.Def, w *api.World, id int) api.Answer {
	k := place(w, id)
	if k < 0 {
		return api.Answer{Code: api.ErrId}
	}
	inst := &w.Instances[k]
	code := pickCode(d, w.Clock, inst)
	if code != api.OK {
		return api.Answer{Code: code}
	}
	a := api.Answer{Number: inst.Key, Step: nextStep(inst), What: api.DoIt}
	if inst.Key == 0 {
		a.Number = inst.Keys + 1
	}
	if inst.Mode == api.Back {
		a.What = api.UndoIt
	}
	return a
}

func pickCode(d api.Def, clock int, inst *api.Instance) api.Errno {
	if isOver(inst) {
		return api.ErrOver
	}
	if inst.Stuck {
		return api.ErrStuck
	}
	if inst.Key == 0 {
		return newKeyCode(d, clock, inst)
	}
	if clock < inst.Due {
		return api.ErrBusy
	}
	return api.OK
}

func newKeyCode(d api.Def, clock int, inst *api.Instance) api.Errno {
	if clock < inst.Wake {
		return api.ErrWait
	}
	s := step(d, nextStep(inst))
	if inst.Mode == api.Back && !s.Undo {
		return api.ErrNoUndo
	}
	if inst.Keys >= api.MaxKeys {
		return api.ErrFull
	}
	return api.OK
}

func pick(d api.Def, w *api.World, id int) {
	k := place(w, id)
	if k < 0 {
		return
	}
	inst := &w.Instances[k]
	if inst.Key == 0 {
		inst.Keys++
		inst.Tries++
		inst.Key = inst.Keys
	}
	s := step(d, nextStep(inst))
	inst.Due = w.Clock + s.Timeout
}
