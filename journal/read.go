package journal

import (
	"saga/api"
	"saga/world"
)

// smallest is the size of a record without a Reason.
const smallest = 8

// Read carries out the commands whose records the bytes begin with, and tells
// how many bytes those are. The definition must have passed saga.Check.
func Read(d api.Def, w *api.World, bytes string) int {
	at := 0
	for at < len(bytes) {
		c, size := first(bytes[at:])
		if size == 0 {
			return at
		}
		a := world.Do(d, w, c)
		if a.Code != api.OK {
			return at
		}
		at += size
	}
	return at
}

// first tells the command of the record that the bytes begin with, and the
// record's size; 0: they begin with none. A record that is as it would be
// written has the right sum, too; and any Kind but START to WITHDRAW is
// refused by the world.
func first(bytes string) (api.Cmd, int) {
	size := wholeSize(bytes)
	if size < smallest {
		return api.Cmd{}, 0
	}
	c := api.Cmd{
		Kind:   int(bytes[1]),
		Inst:   int(bytes[2]),
		A:      int(bytes[3]),
		B:      int(bytes[4]),
		Who:    int(bytes[5]),
		Reason: bytes[6 : size-2],
	}
	r := Record(c)
	if string(r) != bytes[:size] {
		return api.Cmd{}, 0
	}
	return c, size
}

// wholeSize tells the size of a record of which all bytes are there; 0: some
// are not.
func wholeSize(bytes string) int {
	if bytes == "" {
		return 0
	}
	size := 1 + int(bytes[0]) + 2
	if size > len(bytes) {
		return 0
	}
	return size
}
