package world

import (
	"testing"

	"saga/api"
)

func TestEveryStepNumber(t *testing.T) {
	d := api.Def{Steps: []api.Step{{Timeout: 5}, {Timeout: 6}}}
	for number, timeout := range map[int]int{-1 << 63: 0, -1: 0, 0: 5, 1: 6, 2: 0, 1<<63 - 1: 0} {
		if s := step(d, number); s.Timeout != timeout {
			t.Errorf("P1: step %d: %+v", number, s)
		}
	}
}
