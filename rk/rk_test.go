package rk_test

import (
	"math"
	"testing"

	"cashbook/api"
	"cashbook/dec"
	"cashbook/rk"
)

// The bounds of what is promised, in digits.
const (
	leastM = -134217728
	mostM  = 134217727
	mostN  = 4294967295
)

type D = dec.Dec

// packed tells by sums alone, without a bit, what d is in 32 bits.
func packed(d D) int64 {
	n := d.M*16 + int64(d.S)
	if d.M < 0 {
		n += mostN + 1
	}
	return n
}

// unpacked tells by sums alone what n is, whether Check takes it or not.
func unpacked(n int64) D {
	m := n / 16
	if m > mostM {
		m -= 268435456
	}
	return D{M: m, S: int(n % 16)}
}

// taken tells by its digits whether Check takes d.
func taken(d D) bool {
	return d.S == 0 || d.S >= 1 && d.S <= 9 && d.M%10 != 0
}

// ms tells Ms of which many are at some edge.
func ms() []int64 {
	l := []int64{math.MinInt64, math.MinInt64 + 1, math.MaxInt64 - 1, math.MaxInt64}
	for bit := range 63 {
		for _, near := range []int64{-2, -1, 0, 1, 2} {
			l = append(l, 1<<bit+near, -1<<bit+near)
		}
	}
	for ten := int64(1); ten < math.MaxInt64/10; ten *= 10 {
		for _, near := range []int64{-1, 0, 1} {
			l = append(l, ten+near, -ten+near)
		}
	}
	for near := int64(-20); near <= 20; near++ {
		l = append(l, near, leastM+near, mostM+near)
	}
	return l
}

// scales tells all Ss that may be, and some that may not.
func scales() []int {
	l := []int{math.MinInt, math.MinInt + 16, -1 << 32, -17, -16, -15, -2, -1, 16, 17, 25, 32, 1 << 32, 1<<32 + 1, math.MaxInt}
	for s := range 16 {
		l = append(l, s)
	}
	return l
}

func TestP501Pack(t *testing.T) {
	for _, c := range []struct {
		d    D
		want int64
	}{
		{D{}, 0},
		{D{M: 1}, 0x10},
		{D{M: -1}, 0xFFFFFFF0},
		{D{M: 10}, 0xA0},
		{D{M: 1, S: 1}, 0x11},
		{D{M: -1, S: 1}, 0xFFFFFFF1},
		{D{M: 5, S: 9}, 0x59},
		{D{M: -5, S: 9}, 0xFFFFFFB9},
		{D{M: 1235, S: 2}, 0x4D32},
		{D{M: -1235, S: 2}, 0xFFFFB2D2},
		{D{M: 0x1234567}, 0x12345670},
		{D{M: -0x1234567}, 0xEDCBA990},
		{D{M: 0x4000000}, 0x40000000},
		{D{M: -0x4000000}, 0xC0000000},
		{D{M: mostM - 1}, 0x7FFFFFE0},
		{D{M: mostM}, 0x7FFFFFF0},
		{D{M: mostM, S: 9}, 0x7FFFFFF9},
		{D{M: leastM + 1}, 0x80000010},
		{D{M: leastM}, 0x80000000},
		{D{M: leastM, S: 1}, 0x80000001},
		{D{M: leastM, S: 9}, 0x80000009},
	} {
		if !rk.Fits(c.d) {
			t.Errorf("P501: Fits(%v): false", c.d)
		}
		if n, e := rk.Pack(c.d); n != c.want || e != api.OK {
			t.Errorf("P501: Pack(%v): %#x, %v, want %#x", c.d, n, e, c.want)
		}
		if d, e := rk.Unpack(c.want); d != c.d || e != api.OK {
			t.Errorf("P501: Unpack(%#x): %v, %v, want %v", c.want, d, e, c.d)
		}
	}
}

func TestP501PackRefuses(t *testing.T) {
	for _, c := range []struct {
		d    D
		want api.Errno
	}{
		{D{M: mostM + 1}, api.ErrNum},
		{D{M: leastM - 1}, api.ErrNum},
		{D{M: mostM + 4, S: 9}, api.ErrNum},
		{D{M: leastM - 1, S: 9}, api.ErrNum},
		{D{M: 1 << 28}, api.ErrNum},
		{D{M: -1 << 28}, api.ErrNum},
		{D{M: 1<<28 + 1, S: 1}, api.ErrNum},
		{D{M: 1 << 31}, api.ErrNum},
		{D{M: 1 << 32}, api.ErrNum}, // their lowest bits alone would fit
		{D{M: 1<<32 + 5}, api.ErrNum},
		{D{M: -1<<32 - 5}, api.ErrNum},
		{D{M: math.MaxInt64}, api.ErrNum},
		{D{M: math.MinInt64}, api.ErrNum},
		{D{M: math.MaxInt64, S: 9}, api.ErrNum},
		{D{M: math.MinInt64, S: 9}, api.ErrNum},
		// more digits than the short form has, though the number is small
		{D{M: 999999999, S: 9}, api.ErrNum},
		{D{S: 1}, api.ErrArg},
		{D{S: 9}, api.ErrArg},
		{D{M: 10, S: 1}, api.ErrArg},
		{D{M: -10, S: 1}, api.ErrArg},
		{D{M: 1200, S: 3}, api.ErrArg},
		{D{M: 5, S: 10}, api.ErrArg},
		{D{M: 5, S: 15}, api.ErrArg},
		{D{M: 5, S: 16}, api.ErrArg},
		{D{M: 5, S: -1}, api.ErrArg},
		{D{M: 5, S: -16}, api.ErrArg},
		{D{M: 5, S: 1 << 32}, api.ErrArg},
		{D{M: 5, S: math.MinInt}, api.ErrArg},
		{D{M: 5, S: math.MaxInt}, api.ErrArg},
		// both apply: Check's is ahead
		{D{M: 1 << 40, S: 10}, api.ErrArg},
		{D{M: 1 << 40, S: -1}, api.ErrArg},
		{D{M: math.MinInt64, S: math.MinInt}, api.ErrArg},
		{D{M: 1000000000, S: 1}, api.ErrArg},
		{D{M: -1000000000, S: 9}, api.ErrArg},
	} {
		if rk.Fits(c.d) {
			t.Errorf("P501: Fits(%v): true", c.d)
		}
		if n, e := rk.Pack(c.d); n != 0 || e != c.want {
			t.Errorf("P501: Pack(%v): %#x, %v, want %v", c.d, n, e, c.want)
		}
	}
}

func TestP501UnpackRefuses(t *testing.T) {
	for _, n := range []int64{
		// beyond 32 bits
		-1, -16, -0x7FFFFFF0, -0x80000000, -0xFFFFFFF0, math.MinInt64, math.MinInt64 + 0x10,
		mostN + 1, mostN + 0x11, 0x1234567890, 1 << 62, math.MaxInt64, math.MaxInt64 - 15,
		// an S above MaxScale
		0xA, 0xF, 0x1A, 0x1B, 0x1C, 0x1D, 0x1E, 0x1F, 0x7FFFFFFA, 0x8000000A, 0xFFFFFFFA, mostN,
		// an M that ends with a nought behind the point
		0x1, 0x9, 0xA1, 0xA9, 0x141, 0x3E83, 0xFFFFFF61, 0xFFFFFF69,
	} {
		if d, e := rk.Unpack(n); d != (D{}) || e != api.ErrArg {
			t.Errorf("P501: Unpack(%#x): %v, %v", n, d, e)
		}
	}
}

// TestP501OfEdges holds what is told of each M at an edge with each S against
// sums.
func TestP501OfEdges(t *testing.T) {
	for _, m := range ms() {
		for _, s := range scales() {
			checkPack(t, D{M: m, S: s})
		}
	}
}

func checkPack(t *testing.T, d D) {
	t.Helper()
	var n int64
	want := api.OK
	switch {
	case !taken(d):
		want = api.ErrArg
	case d.M < leastM || d.M > mostM:
		want = api.ErrNum
	default:
		n = packed(d)
	}
	if got := rk.Fits(d); got != (want == api.OK) {
		t.Fatalf("P501: Fits(%v): %v", d, got)
	}
	if got, e := rk.Pack(d); got != n || e != want {
		t.Fatalf("P501: Pack(%v): %#x, %v, want %#x, %v", d, got, e, n, want)
	}
}

// ns tells numbers of 32 bits: those at each edge of a bit, and others all over
// at odd steps.
func ns(yield func(int64) bool) {
	for bit := range 33 {
		for near := int64(-260); near <= 260; near++ {
			n := int64(1)<<bit + near
			if n >= 0 && n <= mostN && !yield(n) {
				return
			}
		}
	}
	for n := int64(0); n <= mostN; n += 1009 {
		if !yield(n) {
			return
		}
	}
}

// TestP501UnpackOfAllOver holds what Unpack tells against sums; what it takes
// is packed again to the same 32 bits.
func TestP501UnpackOfAllOver(t *testing.T) {
	for n := range ns {
		d, want := unpacked(n), api.OK
		if !taken(d) {
			d, want = D{}, api.ErrArg
		}
		got, e := rk.Unpack(n)
		if got != d || e != want {
			t.Fatalf("P501: Unpack(%#x): %v, %v, want %v, %v", n, got, e, d, want)
		}
		if e != api.OK {
			continue
		}
		if back, e := rk.Pack(got); back != n || e != api.OK || !rk.Fits(got) {
			t.Fatalf("P501: Pack(%v): %#x, %v, want %#x", got, back, e, n)
		}
	}
}

func TestP502ThereAndBack(t *testing.T) {
	var short []int64
	for _, m := range ms() {
		if m >= leastM && m <= mostM {
			short = append(short, m)
		}
	}
	for m := int64(leastM); m <= mostM; m += 997 {
		short = append(short, m)
	}
	for _, m := range short {
		for s := range 10 {
			d := dec.Norm(D{M: m, S: s})
			n, e := rk.Pack(d)
			if e != api.OK || n < 0 || n > mostN {
				t.Fatalf("P502: Pack(%v): %#x, %v", d, n, e)
			}
			if back, e := rk.Unpack(n); back != d || e != api.OK {
				t.Fatalf("P502: Unpack(Pack(%v)): %v, %v", d, back, e)
			}
		}
	}
}
