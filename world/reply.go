package world

import "saga/api"

// replyCode does not look at whether the instance is over or stuck: no key
// is out then.
func replyCode(w *api.World, id, key int) api.Errno {
	k := place(w, id)
	if k < 0 {
		return api.ErrId
	}
	out := w.Instances[k].Key
	if out == 0 || out != key {
		return api.ErrKey
	}
	return api.OK
}

func reply(d api.Def, w *api.World, id int, well bool) {
	k := place(w, id)
	if k < 0 {
		return
	}
	inst := &w.Instances[k]
	if !well {
		fail(d, w.Clock, inst)
		return
	}
	key := inst.Key
	if inst.Mode == api.Back {
		takeBack(w.Clock, inst, api.EntryUndo, key)
		return
	}
	settle(d, w.Clock, inst, api.EntryDo, key)
}

func fail(d api.Def, clock int, inst *api.Instance) {
	dropKey(inst)
	s := step(d, nextStep(inst))
	if inst.Tries <= s.Retries {
		inst.Wake = clock + pause(inst.Tries)
		return
	}
	if inst.Mode == api.Forward && !isPivotBehind(d, inst) {
		abort(clock, inst)
		return
	}
	inst.Stuck = true
}

// pause is 2 to the (tries - 1), without a shift by what might be negative.
func pause(tries int) int {
	n := 1
	for k := 1; k < tries; k++ {
		n *= 2
	}
	return n
}
