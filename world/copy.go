package world

import "saga/api"

// Copy is a world that shares no list with the other.
func Copy(w *api.World) api.World {
	c := api.World{Clock: w.Clock}
	for k := 0; k < len(w.Instances); k++ {
		inst := w.Instances[k]
		inst.Ledger = append([]api.Entry{}, inst.Ledger...)
		c.Instances = append(c.Instances, inst)
	}
	for k := 0; k < len(w.Requests); k++ {
		r := w.Requests[k]
		r.By = append([]int{}, r.By...)
		c.Requests = append(c.Requests, r)
	}
	return c
}
