package fun

import (
	"cashbook/api"
	"cashbook/dec"
	"cashbook/val"
)

// The signs that take one operand.
const (
	minus   = 1
	plus    = 2
	percent = 3
)

// The signs that take two.
const (
	added = iota + 1
	lessened
	multiplied
	divided
	raised
	joined
	equal
	unequal
	below
	notAbove
	above
	notBelow
)

// mostPower is how often one is multiplied at most.
const mostPower = 64

// Unary tells what a sign tells of one value.
func Unary(op int, a val.Val) val.Val {
	switch op {
	case minus, percent:
		return signed(op, a)
	case plus:
		return a
	}
	return val.Fault(val.Value)
}

func signed(op int, a val.Val) val.Val {
	d, fault, ok := val.Number(a)
	switch {
	case !ok:
		return fault
	case op == minus:
		return reckoned(dec.Sub(dec.Dec{}, d))
	}
	return reckoned(dec.Div(d, dec.Int(100)))
}

// Binary tells what a sign tells of two values.
func Binary(op int, a, b val.Val) val.Val {
	switch {
	case a.Kind == val.Err:
		return a
	case b.Kind == val.Err:
		return b
	}
	switch op {
	case added, lessened, multiplied, divided, raised:
		return reckon(op, a, b)
	case joined:
		return concat([]Arg{One(a), One(b)})
	case equal, unequal, below, notAbove, above, notBelow:
		return truth(holds(op, val.Compare(a, b)))
	}
	return val.Fault(val.Value)
}

func reckon(op int, a, b val.Val) val.Val {
	m, n, fault, ok := numbers(a, b)
	if !ok {
		return fault
	}
	switch op {
	case added:
		return reckoned(dec.Add(m, n))
	case lessened:
		return reckoned(dec.Sub(m, n))
	case multiplied:
		return reckoned(dec.Mul(m, n))
	case divided:
		return reckoned(dec.Div(m, n))
	}
	return power(m, n)
}

// numbers tells a and b as numbers, or, by a false, what is told instead.
func numbers(a, b val.Val) (dec.Dec, dec.Dec, val.Val, bool) {
	m, fault, ok := val.Number(a)
	if !ok {
		return dec.Dec{}, dec.Dec{}, fault, false
	}
	n, fault, ok := val.Number(b)
	if !ok {
		return dec.Dec{}, dec.Dec{}, fault, false
	}
	return m, n, val.Val{}, true
}

// power tells a to the b. It is rounded behind each step, so that no shorter
// way tells the same.
func power(a, b dec.Dec) val.Val {
	if !isWhole(b) || b.M < -mostPower || b.M > mostPower {
		return val.Fault(val.NumE)
	}
	p, e := dec.Int(1), api.OK
	for range max(b.M, -b.M) {
		p, e = dec.Mul(p, a)
		if e != api.OK {
			return reckoned(p, e)
		}
	}
	if b.M < 0 {
		return reckoned(dec.Div(dec.Int(1), p))
	}
	return number(p)
}

// holds tells whether a sign holds where its operands compare so.
func holds(op, way int) bool {
	switch op {
	case equal:
		return way == 0
	case unequal:
		return way != 0
	case below:
		return way < 0
	case notAbove:
		return way <= 0
	case above:
		return way > 0
	}
	return way >= 0
}
