package fun

import (
	"iter"
	"slices"

	"cashbook/api"
	"cashbook/dec"
	"cashbook/val"
)

// picked goes through the values of args, in order: of an Area those that are
// of a Kind that is wanted there, and its Errs.
func picked(args []Arg, wanted ...int) iter.Seq[val.Val] {
	return func(yield func(val.Val) bool) {
		for _, a := range args {
			for _, v := range a.L {
				letBe := a.Area && v.Kind != val.Err && !slices.Contains(wanted, v.Kind)
				if !letBe && !yield(v) {
					return
				}
			}
		}
	}
}

// allNumbers tells the numbers of args, in order, or, by a false, what is told
// instead of the first that is none. All are asked ahead of what is reckoned of
// them: what is told instead of one comes first, however far right it stands.
func allNumbers(args []Arg) ([]dec.Dec, val.Val, bool) {
	var l []dec.Dec
	for v := range picked(args, val.Num) {
		d, fault, ok := val.Number(v)
		if !ok {
			return nil, fault, false
		}
		l = append(l, d)
	}
	return l, val.Val{}, true
}

// sum tells all numbers added, of AVERAGE by how many they are.
func sum(op int, args []Arg) val.Val {
	l, fault, ok := allNumbers(args)
	if !ok {
		return fault
	}
	total := dec.Dec{}
	for _, d := range l {
		var e api.Errno
		total, e = dec.Add(total, d)
		if e != api.OK {
			return reckoned(total, e)
		}
	}
	if op == opAverage {
		return reckoned(dec.Div(total, dec.Int(int64(len(l)))))
	}
	return number(total)
}

// extreme tells the least number, way -1, or the greatest one, way 1; of none 0.
func extreme(args []Arg, way int) val.Val {
	l, fault, ok := allNumbers(args)
	if !ok {
		return fault
	}
	best := dec.Dec{}
	for i, d := range l {
		if i == 0 || dec.Compare(d, best) == way {
			best = d
		}
	}
	return number(best)
}

// count tells how many numbers there are; an Err is none.
func count(args []Arg) val.Val {
	n := int64(0)
	for v := range picked(args, val.Num) {
		if _, _, ok := val.Number(v); ok {
			n++
		}
	}
	return number(dec.Int(n))
}

func ofNumber(op int, v val.Val) val.Val {
	d, fault, ok := val.Number(v)
	switch {
	case !ok:
		return fault
	case op == opSign:
		return number(dec.Int(int64(dec.Compare(d, dec.Dec{}))))
	case op == opInt:
		return reckoned(dec.Floor(d))
	case d.M < 0:
		return reckoned(dec.Sub(dec.Dec{}, d))
	}
	return number(d)
}

func ofTwoNumbers(op int, a, b val.Val) val.Val {
	m, n, fault, ok := numbers(a, b)
	switch {
	case !ok:
		return fault
	case op == opMod:
		return modulo(m, n)
	}
	return round(m, n)
}

// modulo tells a less b times the floor of a by b: the rest, of b's sign, of two
// whole numbers of one size.
func modulo(a, b dec.Dec) val.Val {
	if b.M == 0 {
		return val.Fault(val.Div0)
	}
	places := max(a.S, b.S)
	m, e := scaled(a, places)
	if e != api.OK {
		return reckoned(dec.Dec{}, e)
	}
	n, e := scaled(b, places)
	if e != api.OK {
		return reckoned(dec.Dec{}, e)
	}
	rest := m % n
	if rest != 0 && (rest < 0) != (n < 0) {
		rest += n
	}
	return number(dec.Norm(dec.Dec{M: rest, S: places}))
}

// scaled tells the M that d has with so many places, no fewer than its own.
func scaled(d dec.Dec, places int) (int64, api.Errno) {
	out, e := dec.Div(d, dec.Dec{M: 1, S: places})
	return out.M, e
}

func round(d, places dec.Dec) val.Val {
	n := int(places.M)
	// an int may have fewer bits than places
	if !isWhole(places) || int64(n) != places.M {
		return val.Fault(val.NumE)
	}
	return reckoned(dec.Round(d, n))
}

func isWhole(d dec.Dec) bool { return d.S == 0 }
