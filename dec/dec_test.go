package dec_test

import (
	"math"
	"math/big"
	"strings"
	"testing"

	"cashbook/api"
	"cashbook/dec"
)

const (
	least = math.MinInt64
	most  = math.MaxInt64
)

type D = dec.Dec

// rat tells what d is, exactly.
func rat(d D) *big.Rat { return new(big.Rat).SetFrac(big.NewInt(d.M), ten(d.S)) }

func ten(n int) *big.Int { return new(big.Int).Exp(big.NewInt(10), big.NewInt(int64(n)), nil) }

// rounded tells x with so many places, halves away from 0; below 0 they stand
// ahead of the point.
func rounded(x *big.Rat, places int) *big.Rat {
	shift := new(big.Rat).SetInt(ten(max(places, -places)))
	if places < 0 {
		shift.Inv(shift)
	}
	y := new(big.Rat).Mul(x, shift)
	y.Abs(y).Add(y, big.NewRat(1, 2))
	y.SetInt(new(big.Int).Quo(y.Num(), y.Denom()))
	if x.Sign() < 0 {
		y.Neg(y)
	}
	return y.Quo(y, shift)
}

// decOf tells the Dec that x is, which has no more than MaxScale places:
// ErrNum where there is none.
func decOf(x *big.Rat) (D, api.Errno) {
	s := 0
	for ; !x.IsInt(); s++ {
		x = new(big.Rat).Mul(x, big.NewRat(10, 1))
	}
	if !x.Num().IsInt64() {
		return D{}, api.ErrNum
	}
	return D{M: x.Num().Int64(), S: s}, api.OK
}

// edges tells Decs of which many are at some edge.
func edges() []D {
	ms := []int64{0, 1, 2, 3, 5, 7, 9, 10, 11, 15, 25, 49, 50, 51, 99, 100, 101, 125, 999, 1000, 1 << 32, 1<<32 + 1, 999999999, 1000000000, 1000000001, 4611686018427387904, 5000000000000000000, 9000000000000000000, 922337203685477581, 922337203685477580, 1000000000000000000, 999999999999999999, most - 1, most, 3037000499, 3037000500, 4999999999, 5000000001, 1 << 60}
	var l []D
	for _, m := range ms {
		for _, s := range []int{0, 1, 2, 5, 8, 9} {
			for _, d := range []D{{M: m, S: s}, {M: -m, S: s}, {M: -m - 1, S: s}} {
				if dec.Check(d) == api.OK {
					l = append(l, d)
				}
			}
		}
	}
	return l
}

// invalid tells Decs that Check does not take.
func invalid() []D {
	var l []D
	for _, m := range []int64{0, 1, -1, 10, -10, 123, most, least} {
		for _, s := range []int{-1, 10, 11, 18, 19, 20, 63, 64, -9, -64, math.MinInt, math.MaxInt, math.MinInt + 9, math.MaxInt - 9, 1 << 32, -1 << 32} {
			l = append(l, D{M: m, S: s})
		}
	}
	return append(l, D{M: 0, S: 1}, D{M: 0, S: 9}, D{M: 10, S: 1}, D{M: -500, S: 9})
}

func TestP401Check(t *testing.T) {
	for _, c := range []struct {
		d    D
		want api.Errno
	}{
		{D{}, api.OK},
		{D{M: 0, S: 1}, api.ErrArg},
		{D{M: 0, S: 9}, api.ErrArg},
		{D{M: 10}, api.OK},
		{D{M: 1000000}, api.OK},
		{D{M: 10, S: 1}, api.ErrArg},
		{D{M: -10, S: 1}, api.ErrArg},
		{D{M: 1234567890, S: 9}, api.ErrArg},
		{D{M: 100, S: 1}, api.ErrArg},
		{D{M: 11, S: 1}, api.OK},
		{D{M: -11, S: 1}, api.OK},
		{D{M: 5, S: 9}, api.OK},
		{D{M: 5, S: 10}, api.ErrArg},
		{D{M: 5, S: -1}, api.ErrArg},
		{D{M: 0, S: -1}, api.ErrArg},
		{D{M: 0, S: 10}, api.ErrArg},
		{D{M: 50, S: -1}, api.ErrArg},
		{D{M: 5, S: math.MinInt}, api.ErrArg},
		{D{M: 5, S: math.MaxInt}, api.ErrArg},
		{D{M: most}, api.OK},
		{D{M: least}, api.OK},
		{D{M: most, S: 9}, api.OK},
		{D{M: least, S: 9}, api.OK},
		{D{M: least, S: 10}, api.ErrArg},
	} {
		if e := dec.Check(c.d); e != c.want {
			t.Errorf("P401: Check(%v): %v", c.d, e)
		}
	}
	for _, d := range invalid() {
		if e := dec.Check(d); e != api.ErrArg {
			t.Errorf("P401: Check(%v): %v", d, e)
		}
	}
}

func TestP401Norm(t *testing.T) {
	for _, c := range []struct{ d, want D }{
		{D{}, D{}},
		{D{M: 0, S: 9}, D{}},
		{D{M: 0, S: 1}, D{}},
		{D{M: 10}, D{M: 10}},
		{D{M: 10, S: 1}, D{M: 1}},
		{D{M: -10, S: 1}, D{M: -1}},
		{D{M: 100, S: 1}, D{M: 10}},
		{D{M: 100, S: 2}, D{M: 1}},
		{D{M: 100, S: 3}, D{M: 1, S: 1}},
		{D{M: 1230, S: 2}, D{M: 123, S: 1}},
		{D{M: 1203, S: 2}, D{M: 1203, S: 2}},
		{D{M: 1000000000, S: 9}, D{M: 1}},
		{D{M: 10000000000, S: 9}, D{M: 10}},
		{D{M: 100000000, S: 9}, D{M: 1, S: 1}},
		{D{M: -9000000000000000000, S: 9}, D{M: -9000000000}},
		{D{M: most, S: 9}, D{M: most, S: 9}},
		{D{M: least, S: 9}, D{M: least, S: 9}},
		{D{M: least, S: 0}, D{M: least, S: 0}},
		{D{M: -9223372036854775800, S: 9}, D{M: -92233720368547758, S: 7}},
	} {
		if got := dec.Norm(c.d); got != c.want {
			t.Errorf("P401: Norm(%v): %v", c.d, got)
		}
	}
	for _, m := range []int64{0, 1, 20, 300, 4000, 123000, 1000000000000000000, 9000000000000000000, most, most - 7} {
		for s := range api.MaxScale + 1 {
			for _, d := range []D{{M: m, S: s}, {M: -m, S: s}, {M: -m - 1, S: s}} {
				got := dec.Norm(d)
				if dec.Check(got) != api.OK || rat(got).Cmp(rat(d)) != 0 {
					t.Errorf("P401: Norm(%v): %v", d, got)
				}
			}
		}
	}
}

// reckoning is one of the calls that make a Dec of two.
type reckoning struct {
	name string
	call func(a, b D) (D, api.Errno)
	want func(a, b D) (D, api.Errno)
}

func reckonings() []reckoning {
	exact := func(f func(z, x, y *big.Rat) *big.Rat) func(a, b D) (D, api.Errno) {
		return func(a, b D) (D, api.Errno) {
			return decOf(rounded(f(new(big.Rat), rat(a), rat(b)), api.MaxScale))
		}
	}
	quotient := exact((*big.Rat).Quo)
	return []reckoning{
		{"Add", dec.Add, exact((*big.Rat).Add)},
		{"Sub", dec.Sub, exact((*big.Rat).Sub)},
		{"Mul", dec.Mul, exact((*big.Rat).Mul)},
		{"Div", dec.Div, func(a, b D) (D, api.Errno) {
			if b.M == 0 {
				return D{}, api.ErrDiv
			}
			return quotient(a, b)
		}},
	}
}

func checkReckonings(t *testing.T, a, b D) {
	t.Helper()
	for _, r := range reckonings() {
		got, e := r.call(a, b)
		want, wantE := r.want(a, b)
		if got != want || e != wantE {
			t.Fatalf("P401: %s(%v, %v): %v, %v, want %v, %v", r.name, a, b, got, e, want, wantE)
		}
	}
	if got := dec.Compare(a, b); got != rat(a).Cmp(rat(b)) {
		t.Fatalf("P401: Compare(%v, %v): %d", a, b, got)
	}
}

// TestP401ReckoningsAtEdges holds each call of two against another reckoner,
// over each edge with a seventh of all of them, another one for each of seven.
func TestP401ReckoningsAtEdges(t *testing.T) {
	l := edges()
	for n, a := range l {
		for i := n % 7; i < len(l); i += 7 {
			checkReckonings(t, a, l[i])
		}
	}
}

// TestP401ReckoningsAmongAll does so over pairs of all sizes.
func TestP401ReckoningsAmongAll(t *testing.T) {
	state := uint64(1)
	next := func() uint64 {
		state = state*6364136223846793005 + 1442695040888963407
		return state ^ state>>29
	}
	one := func() D {
		m := int64(next()) >> (next() % 64)
		return dec.Norm(D{M: m, S: int(next() % (api.MaxScale + 1))})
	}
	for range 30000 {
		checkReckonings(t, one(), one())
	}
}

func TestP401Reckonings(t *testing.T) {
	const (
		add = iota
		sub
		mul
		div
	)
	for _, c := range []struct {
		op   int
		a, b D
		want D
		e    api.Errno
	}{
		{add, D{M: 1, S: 1}, D{M: 2, S: 1}, D{M: 3, S: 1}, api.OK},
		{add, D{M: 15, S: 1}, D{M: 5, S: 1}, D{M: 2}, api.OK},
		{add, D{M: 5, S: 1}, D{M: -5, S: 1}, D{}, api.OK},
		{add, D{M: 1}, D{M: 1, S: 9}, D{M: 1000000001, S: 9}, api.OK},
		{add, D{M: most}, D{M: 1}, D{}, api.ErrNum},
		{add, D{M: most}, D{M: 1, S: 1}, D{}, api.ErrNum},
		{add, D{M: most - 1}, D{M: 1}, D{M: most}, api.OK},
		{add, D{M: least}, D{M: -1}, D{}, api.ErrNum},
		{add, D{M: least + 1}, D{M: -1}, D{M: least}, api.OK},
		{add, D{M: most}, D{M: least}, D{M: -1}, api.OK},
		{add, D{M: most, S: 9}, D{M: 3, S: 9}, D{M: 922337203685477581, S: 8}, api.OK}, // M is above 64 bits till a place goes
		{add, D{M: least, S: 9}, D{M: least, S: 9}, D{}, api.ErrNum},
		{add, D{M: -5000000000000000001, S: 9}, D{M: -4999999999999999999, S: 9}, D{M: -10000000000}, api.OK},
		{sub, D{M: 3}, D{M: 5}, D{M: -2}, api.OK},
		{sub, D{}, D{M: least}, D{}, api.ErrNum},
		{sub, D{M: -1}, D{M: least}, D{M: most}, api.OK},
		{sub, D{M: least}, D{M: least}, D{}, api.OK},
		{sub, D{M: least}, D{M: 1}, D{}, api.ErrNum},
		{sub, D{M: 1}, D{M: 1, S: 9}, D{M: 999999999, S: 9}, api.OK},
		{sub, D{M: 9223372037}, D{M: 1, S: 9}, D{}, api.ErrNum},
		{sub, D{M: 9223372036}, D{M: 1, S: 9}, D{M: 9223372035999999999, S: 9}, api.OK},
		{mul, D{M: 15, S: 1}, D{M: 2}, D{M: 3}, api.OK},
		{mul, D{M: -15, S: 1}, D{M: 15, S: 1}, D{M: -225, S: 2}, api.OK},
		{mul, D{M: 1, S: 9}, D{M: 5, S: 1}, D{M: 1, S: 9}, api.OK},   // a half
		{mul, D{M: 1, S: 9}, D{M: -5, S: 1}, D{M: -1, S: 9}, api.OK}, // away from 0
		{mul, D{M: 3, S: 9}, D{M: 5, S: 1}, D{M: 2, S: 9}, api.OK},
		{mul, D{M: 1, S: 9}, D{M: 49, S: 2}, D{}, api.OK},
		{mul, D{M: -1, S: 9}, D{M: 499999999, S: 9}, D{}, api.OK},
		{mul, D{M: 1, S: 9}, D{M: 1, S: 9}, D{}, api.OK},
		{mul, D{M: 2, S: 9}, D{M: 5, S: 1}, D{M: 1, S: 9}, api.OK},
		{mul, D{M: least}, D{M: -1}, D{}, api.ErrNum},
		{mul, D{M: least}, D{M: 1}, D{M: least}, api.OK},
		{mul, D{M: 1 << 62}, D{M: 2}, D{}, api.ErrNum},
		{mul, D{M: 1 << 62}, D{M: -2}, D{M: least}, api.OK},
		{mul, D{M: 1 << 62}, D{M: 4}, D{}, api.ErrNum}, // 2^64
		{mul, D{M: least}, D{M: least}, D{}, api.ErrNum},
		{mul, D{M: least, S: 9}, D{M: least, S: 9}, D{}, api.ErrNum},
		{mul, D{M: 3000000001, S: 9}, D{M: 3000000001, S: 9}, D{M: 9000000006, S: 9}, api.OK},
		{mul, D{}, D{M: least, S: 9}, D{}, api.OK},
		{div, D{M: 1}, D{M: 3}, D{M: 333333333, S: 9}, api.OK},
		{div, D{M: 2}, D{M: 3}, D{M: 666666667, S: 9}, api.OK},
		{div, D{M: -2}, D{M: 3}, D{M: -666666667, S: 9}, api.OK},
		{div, D{M: 2}, D{M: -3}, D{M: -666666667, S: 9}, api.OK},
		{div, D{M: -2}, D{M: -3}, D{M: 666666667, S: 9}, api.OK},
		{div, D{M: 10}, D{M: 4}, D{M: 25, S: 1}, api.OK},
		{div, D{M: 1, S: 9}, D{M: 2}, D{M: 1, S: 9}, api.OK}, // a half
		{div, D{M: -1, S: 9}, D{M: 2}, D{M: -1, S: 9}, api.OK},
		{div, D{M: 3, S: 9}, D{M: 2}, D{M: 2, S: 9}, api.OK},
		{div, D{M: 1, S: 9}, D{M: 3}, D{}, api.OK},
		{div, D{M: 1}, D{M: 1, S: 9}, D{M: 1000000000}, api.OK},
		{div, D{M: 1, S: 9}, D{M: 1, S: 9}, D{M: 1}, api.OK},
		{div, D{M: 5}, D{}, D{}, api.ErrDiv},
		{div, D{}, D{}, D{}, api.ErrDiv},
		{div, D{M: least}, D{}, D{}, api.ErrDiv},
		{div, D{}, D{M: -5, S: 3}, D{}, api.OK},
		{div, D{M: least}, D{M: -1}, D{}, api.ErrNum},
		{div, D{M: least}, D{M: 1}, D{M: least}, api.OK},
		{div, D{M: least}, D{M: least}, D{M: 1}, api.OK},
		{div, D{M: most}, D{M: 1, S: 9}, D{}, api.ErrNum},
		{div, D{M: most}, D{M: 3}, D{}, api.ErrNum},
		{div, D{M: 1 << 62}, D{M: least}, D{M: -5, S: 1}, api.OK},
		{div, D{M: 1<<32 + 1, S: 9}, D{M: least}, D{}, api.OK},
	} {
		r := reckonings()[c.op]
		if got, e := r.call(c.a, c.b); got != c.want || e != c.e {
			t.Errorf("P401: %s(%v, %v): %v, %v", r.name, c.a, c.b, got, e)
		}
	}
}

func TestP401Round(t *testing.T) {
	for _, c := range []struct {
		d      D
		places int
		want   D
		e      api.Errno
	}{
		{D{M: 125, S: 2}, 1, D{M: 13, S: 1}, api.OK},
		{D{M: -125, S: 2}, 1, D{M: -13, S: 1}, api.OK},
		{D{M: 124, S: 2}, 1, D{M: 12, S: 1}, api.OK},
		{D{M: 1249, S: 3}, 1, D{M: 12, S: 1}, api.OK}, // 9 does not make 4 a 5
		{D{M: 5, S: 1}, 0, D{M: 1}, api.OK},
		{D{M: -5, S: 1}, 0, D{M: -1}, api.OK},
		{D{M: 49, S: 2}, 0, D{}, api.OK},
		{D{M: -49, S: 2}, 0, D{}, api.OK},
		{D{M: 96, S: 2}, 1, D{M: 1}, api.OK}, // with no place left
		{D{M: 1999999999, S: 9}, 8, D{M: 2}, api.OK},
		{D{M: 1999999999, S: 9}, 9, D{M: 1999999999, S: 9}, api.OK},
		{D{M: 15, S: 1}, 1, D{M: 15, S: 1}, api.OK},
		{D{M: 15, S: 1}, 9, D{M: 15, S: 1}, api.OK},
		{D{M: 15}, 9, D{M: 15}, api.OK},
		{D{M: 1234}, -1, D{M: 1230}, api.OK},
		{D{M: 1235}, -1, D{M: 1240}, api.OK},
		{D{M: -1250}, -2, D{M: -1300}, api.OK},
		{D{M: 12499, S: 1}, -2, D{M: 1200}, api.OK},
		{D{M: 12500}, -3, D{M: 13000}, api.OK},
		{D{M: 500}, -3, D{M: 1000}, api.OK},
		{D{M: 499}, -3, D{}, api.OK},
		{D{M: 5}, -2, D{}, api.OK},
		{D{}, -18, D{}, api.OK},
		{D{}, 9, D{}, api.OK},
		{D{M: most}, -18, D{M: 9000000000000000000}, api.OK},
		{D{M: least}, -18, D{M: -9000000000000000000}, api.OK},
		{D{M: most, S: 1}, -18, D{M: 1000000000000000000}, api.OK},
		{D{M: most, S: 2}, -18, D{}, api.OK},
		{D{M: least, S: 9}, -18, D{}, api.OK},
		{D{M: 500000000000000000}, -18, D{M: 1000000000000000000}, api.OK},
		{D{M: 499999999999999999}, -18, D{}, api.OK},
		{D{M: most}, -1, D{}, api.ErrNum},
		{D{M: least}, -1, D{}, api.ErrNum},
		{D{M: most}, -3, D{}, api.ErrNum},
		{D{M: most}, -2, D{M: 9223372036854775800}, api.OK},
		{D{M: most}, 0, D{M: most}, api.OK},
		{D{M: least}, 0, D{M: least}, api.OK},
		{D{M: most, S: 9}, 8, D{M: 922337203685477581, S: 8}, api.OK},
		{D{M: 5}, 10, D{}, api.ErrArg},
		{D{M: 5}, -19, D{}, api.ErrArg},
		{D{M: most}, -19, D{}, api.ErrArg},
		{D{M: 5}, math.MinInt, D{}, api.ErrArg},
		{D{M: 5}, math.MaxInt, D{}, api.ErrArg},
		{D{M: 5, S: 9}, math.MinInt, D{}, api.ErrArg},
	} {
		if got, e := dec.Round(c.d, c.places); got != c.want || e != c.e {
			t.Errorf("P401: Round(%v, %d): %v, %v", c.d, c.places, got, e)
		}
	}
	for _, d := range edges() {
		for places := -22; places < 13; places++ {
			want, wantE := D{}, api.ErrArg
			if places >= -18 && places <= 9 {
				want, wantE = decOf(rounded(rat(d), places))
			}
			if got, e := dec.Round(d, places); got != want || e != wantE {
				t.Fatalf("P401: Round(%v, %d): %v, %v, want %v, %v", d, places, got, e, want, wantE)
			}
		}
	}
}

func TestP401Floor(t *testing.T) {
	for _, c := range []struct {
		d    D
		want int64
	}{
		{D{}, 0},
		{D{M: 7}, 7},
		{D{M: -7}, -7},
		{D{M: 19, S: 1}, 1},
		{D{M: 1, S: 9}, 0},
		{D{M: -1, S: 9}, -1},
		{D{M: -19, S: 1}, -2},
		{D{M: -11, S: 1}, -2},
		{D{M: most}, most},
		{D{M: least}, least},
		{D{M: most, S: 9}, 9223372036},
		{D{M: least, S: 9}, -9223372037},
		{D{M: least, S: 1}, -922337203685477581},
	} {
		if got, e := dec.Floor(c.d); got != (D{M: c.want}) || e != api.OK {
			t.Errorf("P401: Floor(%v): %v, %v", c.d, got, e)
		}
	}
	for _, d := range edges() {
		r := rat(d)
		want := new(big.Int).Div(r.Num(), r.Denom()) // downwards, as the divisor is above 0
		if got, e := dec.Floor(d); got != (D{M: want.Int64()}) || e != api.OK {
			t.Fatalf("P401: Floor(%v): %v, %v", d, got, e)
		}
	}
}

func TestP401Compare(t *testing.T) {
	rising := []D{{M: least}, {M: least + 1}, {M: -9223372037}, {M: least, S: 9}, {M: -9223372036}, {M: -11, S: 1}, {M: -1}, {M: -9, S: 1}, {M: -1, S: 9}, {}, {M: 1, S: 9}, {M: 2, S: 9}, {M: 1, S: 8}, {M: 1, S: 1}, {M: 9, S: 1}, {M: 1}, {M: 1000000001, S: 9}, {M: 9223372036}, {M: most, S: 9}, {M: 9223372037}, {M: most, S: 1}, {M: most - 1}, {M: most}}
	for i, a := range rising {
		for j, b := range rising {
			want := 0
			if i < j {
				want = -1
			} else if i > j {
				want = 1
			}
			if got := dec.Compare(a, b); got != want {
				t.Errorf("P401: Compare(%v, %v): %d", a, b, got)
			}
		}
	}
}

// texts tells Decs with their texts.
func texts() []struct {
	d D
	s string
} {
	return []struct {
		d D
		s string
	}{
		{D{}, "0"},
		{D{M: 1}, "1"},
		{D{M: 10}, "10"},
		{D{M: -10}, "-10"},
		{D{M: 907}, "907"},
		{D{M: 5, S: 1}, "0.5"},
		{D{M: -5, S: 1}, "-0.5"},
		{D{M: 5, S: 2}, "0.05"},
		{D{M: 1, S: 9}, "0.000000001"},
		{D{M: -1, S: 9}, "-0.000000001"},
		{D{M: 999999999, S: 9}, "0.999999999"},
		{D{M: 1000000001, S: 9}, "1.000000001"},
		{D{M: 1234, S: 2}, "12.34"},
		{D{M: 1204, S: 2}, "12.04"},
		{D{M: 123, S: 3}, "0.123"},
		{D{M: 10000001, S: 1}, "1000000.1"},
		{D{M: most}, "9223372036854775807"},
		{D{M: least}, "-9223372036854775808"},
		{D{M: most, S: 9}, "9223372036.854775807"},
		{D{M: least, S: 9}, "-9223372036.854775808"},
		{D{M: least, S: 1}, "-922337203685477580.8"},
	}
}

func TestP401Text(t *testing.T) {
	for _, c := range texts() {
		if got := dec.Text(c.d); got != c.s {
			t.Errorf("P401: Text(%v): %q", c.d, got)
		}
	}
	for _, d := range edges() {
		if got, want := dec.Text(d), rat(d).FloatString(d.S); got != want {
			t.Errorf("P401: Text(%v): %q, want %q", d, got, want)
		}
	}
}

func TestP401Parse(t *testing.T) {
	for _, c := range texts() {
		if got, e := dec.Parse(c.s); got != c.d || e != api.OK {
			t.Errorf("P401: Parse(%q): %v, %v", c.s, got, e)
		}
	}
	for _, d := range edges() {
		if got, e := dec.Parse(dec.Text(d)); got != d || e != api.OK {
			t.Errorf("P401: Parse(%q): %v, %v", dec.Text(d), got, e)
		}
	}
}

func TestP401ParseRefuses(t *testing.T) {
	noughts := strings.Repeat("0", 400)
	for _, c := range []struct {
		e api.Errno
		l []string
	}{
		{api.ErrForm, []string{
			"", "-", "+", ".", "-.", "-0", "+0", "+1", "--1", "-+1", "1-", "1+", "00", "-00", "01", "-01", "007", "00.5", "-00.5", "01.5",
			".5", "-.5", "5.", "-5.", "0.", "-0.", "0.-5", "1.2.3", "1..2", "..", "0..", "1.2.", ".1.", "1,5", "1.5,", "1e5", "1E5", "1.5e1", "0x1", "1_000",
			" 1", "1 ", "1 2", "- 1", "1. 5", "1\n", "\t1", "1\x00", "\x00", "a", "1a", "a1", "1.a", "1.5a", "-a", "NaN", "Inf", "/", ":", "1/2", "1:", "1./", "1.:",
			"\u0661", "1\u0660", "1.\u0665", "\uFF11", "1\uFF0E5", "\u22121", "\u00B2", "1\u00A0", // digits, a point, a minus of other scripts
			"\xFF", "1\xFF", "1.\xFF5", "1.5\xC3", "\xC0\xB1", "\xED\xA0\x80", "\u0131", "\u0130", // the last two have a digit's lowest byte
		}},
		// the form is asked first, whatever else is wrong
		{api.ErrForm, []string{
			"099999999999999999999", "99999999999999999999.", "99999999999999999999x", ".99999999999999999999", "-99999999999999999999.5.5",
			"01.0", "01.00000000000", ".00000000000", "1.00000000000x", noughts, "1." + noughts + ".", "x" + noughts,
		}},
		{api.ErrNum, []string{
			"9223372036854775808", "-9223372036854775809", "9223372036854775810", "-9223372036854775810", "18446744073709551615", "18446744073709551616", "18446744073709551617", "-18446744073709551616", "36893488147419103232", "99999999999999999999", "100000000000000000000",
			"922337203685477580.8", "-922337203685477580.9", "9223372036.854775808", "-9223372036.854775809", "340282366920938463463374607431768211456", "340282366920938463463374607431768211457", "1" + noughts, "-1" + noughts + ".5",
			"184467440737.09551617", "0.18446744073709551617",
		}},
		// the size is asked ahead of the places
		{api.ErrNum, []string{
			"9223372036854775807.0", "1000000000000000000.0", "1.0000000000000000000", "0.9223372036854775808", "-0.9223372036854775809", "92233720368.54775808", "1." + noughts, "0." + noughts + "9223372036854775808",
		}},
		{api.ErrArg, []string{
			"1.0", "-1.0", "0.0", "0.50", "-0.50", "1.10", "10.0", "1.00", "1.000000000", "0.000000000", "1.0000000000", "0.0000000001", "-0.0000000001", "0.0000000000", "1.0000000001", "-1.2345678901", "1.234567890",
			"0.9223372036854775807", "-0.9223372036854775808", "922337203685477580.0", "0." + noughts, "0." + noughts + "1", "0." + noughts + "9223372036854775807", "-0." + noughts + "9223372036854775808",
		}},
		{api.ErrArg, []string{"-0.0", "-0.00", "-0." + noughts}}, // the chapter names -0 alone as a form that is none
	} {
		for _, s := range c.l {
			if got, e := dec.Parse(s); got != (D{}) || e != c.e {
				t.Errorf("P401: Parse(%.40q): %v, %v, want %v", s, got, e, c.e)
			}
		}
	}
}

// TestP401ParseOfAllTexts goes through all short texts of the signs that bear
// on it: what Parse takes is just what Text tells of it.
func TestP401ParseOfAllTexts(t *testing.T) {
	const signs = "-.0159+ "
	var try func(s string, depth int)
	try = func(s string, depth int) {
		got, e := dec.Parse(s)
		switch {
		case e == api.OK && (dec.Check(got) != api.OK || dec.Text(got) != s):
			t.Fatalf("P401: Parse(%q): %v, of which Text tells %q", s, got, dec.Text(got))
		case e != api.OK && got != D{}:
			t.Fatalf("P401: Parse(%q): %v, %v", s, got, e)
		case e != wantOf(s):
			t.Fatalf("P401: Parse(%q): %v, %v, want %v", s, got, e, wantOf(s))
		}
		if depth == 0 {
			return
		}
		for _, r := range signs {
			try(s+string(r), depth-1)
		}
	}
	try("", 6)
}

// wantOf tells which error Parse is to tell of a text too short for the others.
func wantOf(s string) api.Errno {
	if s == "-0" {
		return api.ErrForm
	}
	parts := strings.Split(strings.TrimPrefix(s, "-"), ".")
	for _, p := range parts {
		if p == "" || strings.Trim(p, "0123456789") != "" {
			return api.ErrForm
		}
	}
	switch {
	case len(parts) > 2, len(parts[0]) > 1 && parts[0][0] == '0':
		return api.ErrForm
	case len(parts) == 2 && strings.HasSuffix(parts[1], "0"):
		return api.ErrArg
	}
	return api.OK
}

func TestP401Int(t *testing.T) {
	for _, n := range []int64{0, 1, -1, 10, -10, 1000, most, least} {
		if got := dec.Int(n); got != (D{M: n}) {
			t.Errorf("P401: Int(%d): %v", n, got)
		}
	}
}

// TestP401WhatMayNotBe: of what Check does not take no more is promised than
// that each call ends (P1).
func TestP401WhatMayNotBe(t *testing.T) {
	others := []D{{}, {M: 5}, {M: -5, S: 9}, {M: most}, {M: least, S: 9}}
	bad := invalid()
	for _, d := range bad {
		dec.Norm(d)
		dec.Floor(d)
		dec.Text(d)
		for _, places := range []int{-19, -18, -1, 0, 1, 9, 10, math.MinInt, math.MaxInt} {
			dec.Round(d, places)
		}
		for _, o := range append(others, bad...) {
			for _, r := range reckonings() {
				r.call(d, o)
				r.call(o, d)
			}
			dec.Compare(d, o)
			dec.Compare(o, d)
		}
	}
}
