package saga

import "saga/api"

func isDefinition(d api.Def) bool {
	if !within(len(d.Steps), 1, api.MaxSteps) {
		return false
	}
	if !within(d.Quorum, 0, api.MaxQuorum) {
		return false
	}
	if !within(d.Expiry, 1, api.MaxExpiry) {
		return false
	}
	return areSteps(d.Steps)
}

func areSteps(steps []api.Step) bool {
	pivots := 0
	for k := 0; k < len(steps); k++ {
		if !isStep(steps[k]) {
			return false
		}
		if steps[k].Pivot {
			pivots++
		}
	}
	return pivots <= 1
}

func isStep(s api.Step) bool {
	if !within(s.Retries, 0, api.MaxRetries) {
		return false
	}
	return within(s.Timeout, 1, api.MaxTimeout)
}

func within(n, low, high int) bool {
	return n >= low && n <= high
}
