package fun

import (
	"math"

	"cashbook/dec"
	"cashbook/val"
)

// What TYPE tells.
const (
	numType   = 1
	textType  = 2
	truthType = 4
	faultType = 16
)

// truths tells of AND whether all truths hold, of OR whether one does.
func truths(op int, args []Arg) val.Val {
	holding, failing := 0, 0
	for v := range picked(args, val.Bool, val.Num) {
		b, fault, ok := val.Truth(v)
		switch {
		case !ok:
			return fault
		case b:
			holding++
		default:
			failing++
		}
	}
	switch {
	case holding+failing == 0:
		return val.Fault(val.Value)
	case op == opAnd:
		return truth(failing == 0)
	}
	return truth(holding > 0)
}

func not(v val.Val) val.Val {
	b, fault, ok := val.Truth(v)
	if !ok {
		return fault
	}
	return truth(!b)
}

// either tells the second or the third one by the truth of the first.
func either(args []Arg) val.Val {
	b, fault, ok := val.Truth(args[0].L[0])
	switch {
	case !ok:
		return fault
	case b:
		return only(args[1])
	case len(args) == 3:
		return only(args[2])
	}
	return truth(false)
}

// unlessFault tells the first one, or, where that is an Err, the second.
func unlessFault(args []Arg) val.Val {
	if args[0].L[0].Kind == val.Err {
		return only(args[1])
	}
	return only(args[0])
}

// choose tells the one of the others that the first one numbers.
func choose(args []Arg) val.Val {
	n, fault, ok := whole(args[0].L[0], 1)
	switch {
	case !ok:
		return fault
	case n >= int64(len(args)):
		return val.Fault(val.Value)
	}
	return only(args[n])
}

// only tells the value of a, or #VALUE! where it has not just one.
func only(a Arg) val.Val {
	if !isOne(a) {
		return val.Fault(val.Value)
	}
	return a.L[0]
}

// index tells the value of l that v numbers.
func index(l []val.Val, v val.Val) val.Val {
	n, fault, ok := whole(v, math.MinInt64)
	switch {
	case !ok:
		return fault
	case n < 1 || n > int64(len(l)):
		return val.Fault(val.RefE)
	}
	return l[n-1]
}

func typeOf(v val.Val) val.Val {
	switch v.Kind {
	case val.Blank, val.Num:
		return number(dec.Int(numType))
	case val.Str:
		return number(dec.Int(textType))
	case val.Bool:
		return number(dec.Int(truthType))
	case val.Err:
		return number(dec.Int(faultType))
	}
	return val.Fault(val.Value)
}
