// Package world answers commands, and carries them out on a world.
package world

import "saga/api"

// Do answers a command, and carries it out if the answer is OK and the
// command is not Dry. The definition must have passed saga.Check.
func Do(d api.Def, w *api.World, c api.Cmd) api.Answer {
	a := answer(d, w, c)
	if a.Code == api.OK && !c.Dry {
		carryOut(d, w, c)
	}
	return a
}

// answer changes nothing, so that a command that is refused or Dry can leave
// no trace.
func answer(d api.Def, w *api.World, c api.Cmd) api.Answer {
	switch c.Kind {
	case api.Start:
		return api.Answer{Code: startCode(w, c.Inst)}
	case api.Pick:
		return pickAnswer(d, w, c.Inst)
	case api.Reply:
		return api.Answer{Code: replyCode(w, c.Inst, c.A)}
	case api.Tick:
		return api.Answer{Code: tickCode(w, c.A)}
	case api.Ask:
		return askAnswer(d, w, c)
	case api.Approve:
		return api.Answer{Code: approveCode(d, w, c.A, c.Who)}
	case api.Withdraw:
		return api.Answer{Code: withdrawCode(w, c.A, c.Who)}
	}
	return api.Answer{Code: api.ErrKind}
}

// carryOut is for commands that answer has let pass.
func carryOut(d api.Def, w *api.World, c api.Cmd) {
	switch c.Kind {
	case api.Start:
		start(w, c.Inst)
	case api.Pick:
		pick(d, w, c.Inst)
	case api.Reply:
		reply(d, w, c.Inst, c.B == 1)
	case api.Tick:
		w.Clock += c.A
	case api.Ask:
		ask(d, w, c)
	case api.Approve:
		approve(d, w, c.A, c.Who)
	case api.Withdraw:
		withdraw(w, c.A)
	}
}

// place tells where in the world the instance of an Id is; -1: nowhere.
func place(w *api.World, id int) int {
	for k := 0; k < len(w.Instances); k++ {
		if w.Instances[k].Id == id {
			return k
		}
	}
	return -1
}

func startCode(w *api.World, id int) api.Errno {
	if id < 0 || id > api.MaxId {
		return api.ErrRange
	}
	if place(w, id) >= 0 {
		return api.ErrId
	}
	if len(w.Instances) >= api.MaxInstances {
		return api.ErrFull
	}
	return api.OK
}

func start(w *api.World, id int) {
	w.Instances = append(w.Instances, api.Instance{Id: id, Mode: api.Forward})
}

// tickCode looks at the range first: only then can the sum not overflow.
func tickCode(w *api.World, more int) api.Errno {
	if more < 1 || more > api.MaxTick {
		return api.ErrRange
	}
	if w.Clock+more > api.MaxClock {
		return api.ErrClock
	}
	return api.OK
}
