package eval

import (
	"cashbook/fun"
	"cashbook/val"
)

// told is what a tree tells: an Area, its values row by row, or else one value
// of all cells that are asked for, or one of each. What stands in l is not
// changed any more, as several may have it.
type told struct {
	area       bool
	rows, cols int // of an Area
	l          []val.Val
}

func single(v val.Val) told { return told{l: []val.Val{v}} }

// cells tells of how many cells t has a value of their own; 1: of none.
func (t told) cells() int {
	if t.area {
		return 1
	}
	return len(t.l)
}

// of tells the value of a cell, where t is no Area.
func (t told) of(cell int) val.Val {
	if len(t.l) == 1 {
		return t.l[0]
	}
	return t.l[cell]
}

// arg tells what a function takes of t in a cell.
func (t told) arg(cell int) fun.Arg {
	if t.area {
		return fun.Arg{Area: true, L: t.l}
	}
	return fun.One(t.of(cell))
}
