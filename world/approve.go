package world

import "saga/api"

// openPlace tells where in the world the open request of a number is; -1:
// there is none.
func openPlace(w *api.World, number int) int {
	if number < 1 || number > len(w.Requests) {
		return -1
	}
	r := &w.Requests[number-1]
	if r.Closed || w.Clock >= r.Until {
		return -1
	}
	return number - 1
}

func approveCode(d api.Def, w *api.World, number, who int) api.Errno {
	k := openPlace(w, number)
	if k < 0 {
		return api.ErrRequest
	}
	r := &w.Requests[k]
	if !mayApprove(r, who) {
		return api.ErrWho
	}
	if len(r.By)+1 >= d.Quorum && !canGrant(d, w, r) {
		return api.ErrState
	}
	return api.OK
}

func mayApprove(r *api.Request, who int) bool {
	if !isWho(who) || who == r.Who {
		return false
	}
	return !isAmong(r.By, who)
}

func isAmong(by []int, who int) bool {
	for k := 0; k < len(by); k++ {
		if by[k] == who {
			return true
		}
	}
	return false
}

func canGrant(d api.Def, w *api.World, r *api.Request) bool {
	k := place(w, r.Inst)
	if k < 0 {
		return false
	}
	return canAskFor(d, &w.Instances[k], r.What, r.Target)
}

func approve(d api.Def, w *api.World, number, who int) {
	k := openPlace(w, number)
	if k < 0 {
		return
	}
	r := &w.Requests[k]
	r.By = append(r.By, who)
	decide(d, w, r)
}

func withdrawCode(w *api.World, number, who int) api.Errno {
	k := openPlace(w, number)
	if k < 0 {
		return api.ErrRequest
	}
	if who != w.Requests[k].Who {
		return api.ErrWho
	}
	return api.OK
}

func withdraw(w *api.World, number int) {
	k := openPlace(w, number)
	if k < 0 {
		return
	}
	w.Requests[k].Closed = true
}
