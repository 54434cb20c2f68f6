package world

import "saga/api"

func askAnswer(d api.Def, w *api.World, c api.Cmd) api.Answer {
	code := askCode(d, w, c)
	if code != api.OK {
		return api.Answer{Code: code}
	}
	return api.Answer{Number: nextRequest(w)}
}

func askCode(d api.Def, w *api.World, c api.Cmd) api.Errno {
	k := place(w, c.Inst)
	if k < 0 {
		return api.ErrId
	}
	if c.A < api.Retry || c.A > api.Rewind {
		return api.ErrKind
	}
	if !isWho(c.Who) {
		return api.ErrWho
	}
	if c.Reason == "" || len(c.Reason) > api.MaxReason {
		return api.ErrReason
	}
	if !canAskFor(d, &w.Instances[k], c.A, c.B) {
		return api.ErrState
	}
	if len(w.Requests) >= api.MaxAsks {
		return api.ErrFull
	}
	return api.OK
}

func ask(d api.Def, w *api.World, c api.Cmd) {
	r := api.Request{Number: nextRequest(w), Inst: c.Inst, What: c.A, Who: c.Who, Reason: c.Reason}
	r.Until = w.Clock + d.Expiry
	if c.A == api.Rewind {
		r.Target = c.B
	}
	decide(d, w, &r)
	w.Requests = append(w.Requests, r)
}

func nextRequest(w *api.World) int {
	return len(w.Requests) + 1
}

func isWho(who int) bool {
	return who >= 0 && who <= api.MaxWho
}

// canAskFor is looked at twice, with the request and with the approval that
// carries it out, as things may have changed between.
func canAskFor(d api.Def, inst *api.Instance, what, target int) bool {
	switch what {
	case api.Retry:
		return inst.Stuck
	case api.Assume:
		return inst.Mode == api.Forward
	case api.Waive:
		return inst.Mode == api.Back
	case api.Abort:
		return inst.Mode == api.Forward && !isPivotBehind(d, inst)
	case api.Rewind:
		return inst.Mode == api.Forward && target < inst.Settled && target >= floor(d, inst)
	}
	return false
}

// decide carries a request out and closes it, if enough have approved.
func decide(d api.Def, w *api.World, r *api.Request) {
	if len(r.By) < d.Quorum {
		return
	}
	r.Closed = true
	k := place(w, r.Inst)
	if k < 0 {
		return
	}
	grant(d, w.Clock, &w.Instances[k], r)
}

// grant is for what canAskFor has let pass. To RETRY is to begin anew, for
// no key is out when an instance is stuck.
func grant(d api.Def, clock int, inst *api.Instance, r *api.Request) {
	switch r.What {
	case api.Retry:
		beginAnew(clock, inst)
	case api.Assume:
		settle(d, clock, inst, api.EntryAssume, r.Number)
	case api.Waive:
		takeBack(clock, inst, api.EntryWaive, r.Number)
	case api.Abort:
		abort(clock, inst)
	case api.Rewind:
		goBack(clock, inst, r.Target, true)
	}
}
