package ref_test

import (
	"math"
	"math/big"
	"regexp"
	"slices"
	"strconv"
	"strings"
	"testing"

	"cashbook/api"
	"cashbook/ref"
)

// The bounds of what is promised, in digits.
const (
	rows = 65536
	cols = 256
	most = 4096 // cells that are told in a list
)

type (
	C = ref.Cell
	R = ref.Ref
	A = ref.Area
)

// numbers tells some of which many are at an edge of rows, columns or ints.
func numbers() []int {
	l := []int{math.MinInt, math.MinInt + 1, math.MinInt + 255, math.MinInt + 65535, math.MinInt + 65537, math.MaxInt - 65536, math.MaxInt - 256, math.MaxInt - 1, math.MaxInt, math.MaxInt / 2, math.MinInt / 2, -1 << 32, 1 << 32, 1<<32 + 7, math.MinInt32, math.MaxInt32}
	for _, edge := range []int{0, cols, 2 * cols, rows / 2, rows - cols, rows, 2 * rows, -cols, -rows, -2 * rows} {
		for near := -2; near <= 2; near++ {
			l = append(l, edge+near)
		}
	}
	return append(l, 100, -100, 12345, -12345)
}

// bools tells all choices of two.
func bools() [][2]bool {
	return [][2]bool{{false, false}, {false, true}, {true, false}, {true, true}}
}

// modulo tells, by numbers without a bound, a and b (by times more) within n.
func modulo(a, b, times, n int) int {
	sum := new(big.Int).Mul(big.NewInt(int64(b)), big.NewInt(int64(times)))
	sum.Add(sum, big.NewInt(int64(a)))
	return int(sum.Mod(sum, big.NewInt(int64(n))).Int64())
}

// count tells how often base counts: once where it is asked for.
func count(relative bool) int {
	if relative {
		return 1
	}
	return 0
}

func TestP801GoodAndCheck(t *testing.T) {
	for _, row := range numbers() {
		for _, col := range numbers() {
			good := row >= 0 && row <= 65535 && col >= 0 && col <= 255
			want := api.ErrRange
			if good {
				want = api.OK
			}
			if got := ref.Good(C{Row: row, Col: col}); got != good {
				t.Errorf("P801: Good(%d, %d): %v", row, col, got)
			}
			for _, rel := range bools() {
				r := R{Row: row, Col: col, RelRow: rel[0], RelCol: rel[1]}
				if e := ref.Check(r); e != want {
					t.Errorf("P801: Check(%v): %v", r, e)
				}
			}
		}
	}
}

func TestP801CheckArea(t *testing.T) {
	last := R{Row: 65535, Col: 255, RelRow: true}
	for _, c := range []struct {
		a    A
		want api.Errno
	}{
		{A{}, api.OK},
		{A{A: last, B: last}, api.OK},
		{A{A: last}, api.OK}, // B above A, left of A
		{A{B: last}, api.OK},
		{A{A: R{Row: 65536}}, api.ErrRange},
		{A{A: R{Row: -1, RelRow: true}}, api.ErrRange},
		{A{A: R{Col: 256, RelCol: true}}, api.ErrRange},
		{A{A: R{Col: -1}}, api.ErrRange},
		{A{B: R{Row: 65536, RelRow: true}}, api.ErrRange},
		{A{B: R{Row: -1}}, api.ErrRange},
		{A{B: R{Col: 256}}, api.ErrRange},
		{A{B: R{Col: -1, RelCol: true}}, api.ErrRange},
		{A{A: R{Row: -1}, B: R{Row: -1}}, api.ErrRange},
	} {
		if e := ref.CheckArea(c.a); e != c.want {
			t.Errorf("P801: CheckArea(%v): %v", c.a, e)
		}
	}
}

func TestP801At(t *testing.T) {
	base := C{Row: 10, Col: 20}
	for _, c := range []struct {
		r    R
		base C
		want C
	}{
		{R{}, base, C{}},
		{R{Row: 3, Col: 4}, base, C{Row: 3, Col: 4}},
		{R{Row: 3, Col: 4, RelRow: true}, base, C{Row: 13, Col: 4}},
		{R{Row: 3, Col: 4, RelCol: true}, base, C{Row: 3, Col: 24}},
		{R{Row: 3, Col: 4, RelRow: true, RelCol: true}, base, C{Row: 13, Col: 24}},
		{R{RelRow: true, RelCol: true}, base, base},
		// round at the edges
		{R{Row: 65525, RelRow: true}, base, C{Row: 65535}},
		{R{Row: 65526, RelRow: true}, base, C{}},
		{R{Row: 65535, RelRow: true}, base, C{Row: 9}},
		{R{Col: 235, RelCol: true}, base, C{Col: 255}},
		{R{Col: 236, RelCol: true}, base, C{}},
		{R{Col: 255, RelCol: true}, base, C{Col: 19}},
		{R{Row: 65535, Col: 255, RelRow: true, RelCol: true}, C{Row: 65535, Col: 255}, C{Row: 65534, Col: 254}},
		// of any numbers
		{R{Row: -1, Col: -1}, base, C{Row: 65535, Col: 255}},
		{R{Row: 65536, Col: 256}, base, C{}},
		{R{Row: 131073, Col: 513}, base, C{Row: 1, Col: 1}},
		{R{Row: -11, Col: -21, RelRow: true, RelCol: true}, base, C{Row: 65535, Col: 255}},
		{R{RelRow: true, RelCol: true}, C{Row: -65536, Col: -256}, C{}},
		{R{Row: math.MaxInt, Col: math.MaxInt, RelRow: true, RelCol: true}, C{Row: math.MaxInt, Col: math.MaxInt}, C{Row: 65534, Col: 254}},
		{R{Row: math.MinInt, Col: math.MinInt, RelRow: true, RelCol: true}, C{Row: math.MinInt, Col: math.MinInt}, C{}},
	} {
		if got := ref.At(c.r, c.base); got != c.want {
			t.Errorf("P801: At(%v, %v): %v, want %v", c.r, c.base, got, c.want)
		}
	}
}

// TestP801AtOfAnyNumbers holds At and Rel against numbers without a bound; what
// a row is does not hang on the columns, so both go through the same numbers at
// once, the columns the other way.
func TestP801AtOfAnyNumbers(t *testing.T) {
	l := numbers()
	other := slices.Clone(l)
	slices.Reverse(other)
	for i, row := range l {
		for k, baseRow := range l {
			col, baseCol := other[i], other[k]
			base := C{Row: baseRow, Col: baseCol}
			for _, rel := range bools() {
				r := R{Row: row, Col: col, RelRow: rel[0], RelCol: rel[1]}
				at := C{Row: modulo(row, baseRow, count(rel[0]), rows), Col: modulo(col, baseCol, count(rel[1]), cols)}
				if got := ref.At(r, base); got != at {
					t.Fatalf("P801: At(%v, %v): %v, want %v", r, base, got, at)
				}
				r.Row, r.Col = modulo(row, baseRow, -count(rel[0]), rows), modulo(col, baseCol, -count(rel[1]), cols)
				if got := ref.Rel(C{Row: row, Col: col}, base, rel[0], rel[1]); got != r {
					t.Fatalf("P801: Rel(%d, %d, %v, %v): %v, want %v", row, col, base, rel, got, r)
				}
			}
		}
	}
}

func TestP801Rel(t *testing.T) {
	base := C{Row: 10, Col: 20}
	for _, c := range []struct {
		c, base C
		want    R
	}{
		{C{Row: 13, Col: 24}, base, R{Row: 13, Col: 24}},
		{C{Row: 13, Col: 24}, base, R{Row: 3, Col: 24, RelRow: true}},
		{C{Row: 13, Col: 24}, base, R{Row: 13, Col: 4, RelCol: true}},
		{C{Row: 13, Col: 24}, base, R{Row: 3, Col: 4, RelRow: true, RelCol: true}},
		{base, base, R{RelRow: true, RelCol: true}},
		// a cell ahead of base is behind it, round at the edge
		{C{Row: 9, Col: 19}, base, R{Row: 65535, Col: 255, RelRow: true, RelCol: true}},
		{C{}, base, R{Row: 65526, Col: 236, RelRow: true, RelCol: true}},
		{C{Row: 65535, Col: 255}, C{}, R{Row: 65535, Col: 255, RelRow: true, RelCol: true}},
		{C{}, C{Row: 65535, Col: 255}, R{Row: 1, Col: 1, RelRow: true, RelCol: true}},
		// of any numbers
		{C{Row: -1, Col: -1}, base, R{Row: 65535, Col: 255}},
		{C{Row: 65536, Col: 256}, base, R{}},
		{C{Row: -1, Col: 257}, C{Row: 65536, Col: -1}, R{Row: 65535, Col: 2, RelRow: true, RelCol: true}},
		{C{Row: math.MinInt, Col: math.MinInt}, C{Row: math.MaxInt, Col: math.MaxInt}, R{Row: 1, Col: 1, RelRow: true, RelCol: true}},
	} {
		if got := ref.Rel(c.c, c.base, c.want.RelRow, c.want.RelCol); got != c.want {
			t.Errorf("P801: Rel(%v, %v): %v, want %v", c.c, c.base, got, c.want)
		}
	}
}

// TestP801RelIsAt goes there and back with each row and each column, from bases
// at the edges and between.
func TestP801RelIsAt(t *testing.T) {
	for _, base := range []C{{}, {Row: 1, Col: 1}, {Row: 32768, Col: 128}, {Row: 65535, Col: 255}} {
		for row := range rows {
			c := C{Row: row, Col: row % cols}
			for _, rel := range bools() {
				r := ref.Rel(c, base, rel[0], rel[1])
				if e := ref.Check(r); e != api.OK || r.RelRow != rel[0] || r.RelCol != rel[1] {
					t.Fatalf("P801: Rel(%v, %v, %v): %v, %v", c, base, rel, r, e)
				}
				if got := ref.At(r, base); got != c {
					t.Fatalf("P801: At(Rel(%v), %v, %v): %v", c, base, rel, got)
				}
			}
		}
	}
}

func TestP801Bounds(t *testing.T) {
	base := C{Row: 10, Col: 20}
	for _, c := range []struct {
		a           A
		base        C
		first, last C
	}{
		{A{}, base, C{}, C{}},
		{A{A: R{Row: 1, Col: 2}, B: R{Row: 3, Col: 4}}, base, C{Row: 1, Col: 2}, C{Row: 3, Col: 4}},
		// any two corners
		{A{A: R{Row: 3, Col: 4}, B: R{Row: 1, Col: 2}}, base, C{Row: 1, Col: 2}, C{Row: 3, Col: 4}},
		{A{A: R{Row: 3, Col: 2}, B: R{Row: 1, Col: 4}}, base, C{Row: 1, Col: 2}, C{Row: 3, Col: 4}},
		{A{A: R{Row: 1, Col: 4}, B: R{Row: 3, Col: 2}}, base, C{Row: 1, Col: 2}, C{Row: 3, Col: 4}},
		// the Ref that is less may be the cell that is greater
		{A{A: R{Row: 1, Col: 1, RelRow: true, RelCol: true}, B: R{Row: 5, Col: 6}}, base, C{Row: 5, Col: 6}, C{Row: 11, Col: 21}},
		{A{A: R{Row: 1, RelRow: true}, B: R{Row: 5, Col: 6, RelCol: true}}, base, C{Row: 5}, C{Row: 11, Col: 26}},
		// round at an edge, all rows or columns are between
		{A{A: R{Row: 65525, RelRow: true}, B: R{Row: 65526, RelRow: true}}, base, C{}, C{Row: 65535}},
		{A{A: R{Col: 235, RelCol: true}, B: R{Col: 236, RelCol: true}}, base, C{}, C{Col: 255}},
		// of any numbers
		{A{A: R{Row: -1, Col: 256}, B: R{Row: 65538, Col: -2}}, base, C{Row: 2}, C{Row: 65535, Col: 254}},
		{A{A: R{Row: -10, Col: -20, RelRow: true, RelCol: true}, B: R{Row: 7, Col: 8}}, base, C{}, C{Row: 7, Col: 8}},
		{A{A: R{Row: math.MaxInt, RelRow: true}, B: R{Col: math.MaxInt, RelCol: true}}, C{Row: math.MaxInt, Col: math.MaxInt}, C{}, C{Row: 65534, Col: 254}},
	} {
		if first, last := ref.Bounds(c.a, c.base); first != c.first || last != c.last {
			t.Errorf("P801: Bounds(%v, %v): %v, %v, want %v, %v", c.a, c.base, first, last, c.first, c.last)
		}
	}
}

// between tells, place by place of the whole sheet, the cells from first to
// last.
func between(first, last C) []C {
	var l []C
	for row := range rows {
		if row < first.Row || row > last.Row {
			continue
		}
		for col := range cols {
			if col >= first.Col && col <= last.Col {
				l = append(l, C{Row: row, Col: col})
			}
		}
	}
	return l
}

func TestP801Cells(t *testing.T) {
	a := A{A: R{Row: 1, Col: 3}, B: R{Row: 0, Col: 1, RelRow: true, RelCol: true}}
	want := []C{{Row: 0, Col: 2}, {Row: 0, Col: 3}, {Row: 1, Col: 2}, {Row: 1, Col: 3}}
	if got := ref.Cells(a, C{Col: 1}); !slices.Equal(got, want) {
		t.Errorf("P801: Cells(%v): %v", a, got)
	}
	for _, c := range []struct {
		a    A
		base C
		n    int
	}{
		{A{}, C{}, 1},
		{A{A: R{Row: 65535, Col: 255}, B: R{Row: 65535, Col: 255}}, C{}, 1},
		{A{A: R{RelRow: true, RelCol: true}, B: R{RelRow: true, RelCol: true}}, C{Row: 65535, Col: 255}, 1},
		{A{B: R{Row: 4}}, C{}, 5},
		{A{B: R{Col: 4}}, C{}, 5},
		{A{A: R{Row: 9, Col: 2}, B: R{Row: 7, Col: 5}}, C{}, 12},
		{A{A: R{Row: 7, Col: 5}, B: R{Row: 9, Col: 2}}, C{}, 12},
		{A{A: R{RelCol: true}, B: R{Row: 9, Col: 2}}, C{Row: 40, Col: 30}, 290},
		{A{A: R{Col: 255, RelCol: true}, B: R{RelCol: true}}, C{Col: 1}, 2},
		{A{A: R{Col: 255, RelCol: true}, B: R{RelCol: true}}, C{}, 256},
		{A{A: R{Row: -1, Col: -3}, B: R{Row: 65533, Col: 253}}, C{}, 3},
		// at the bound, and one more
		{A{B: R{Row: 4095}}, C{}, most},
		{A{B: R{Row: 4096}}, C{}, 0},
		{A{B: R{Row: 15, Col: 255}}, C{}, most},
		{A{B: R{Row: 16, Col: 255}}, C{}, 0},
		{A{B: R{Row: 63, Col: 63}}, C{}, most},
		{A{B: R{Row: 240, Col: 16}}, C{}, 0}, // 241 by 17 are 4097
		{A{A: R{Row: 65535, Col: 255}, B: R{Row: 65520}}, C{}, most},
		{A{A: R{Row: 65535, Col: 255}, B: R{Row: 65519}}, C{}, 0},
		{A{A: R{Row: 4095, RelRow: true}, B: R{RelRow: true}}, C{Row: 65535 - 4095}, most},
		{A{A: R{Row: 4095, RelRow: true}, B: R{RelRow: true}}, C{Row: 65536 - 4095}, 0}, // round at the edge
		{A{B: R{Row: 65535}}, C{}, 0},
		{A{B: R{Row: 65535, Col: 255}}, C{}, 0},
	} {
		got := ref.Cells(c.a, c.base)
		if len(got) != c.n {
			t.Errorf("P801: Cells(%v, %v): %d cells, want %d", c.a, c.base, len(got), c.n)
		}
		if c.n == 0 {
			continue
		}
		if first, last := ref.Bounds(c.a, c.base); !slices.Equal(got, between(first, last)) {
			t.Errorf("P801: Cells(%v, %v): %v", c.a, c.base, got)
		}
	}
}

// TestP801CellsAreNew: what is done to an answer, its spare room too, is not
// told by a later one (P2, P3).
func TestP801CellsAreNew(t *testing.T) {
	a := A{B: R{Row: 2, Col: 2}}
	kept, spoilt := ref.Cells(a, C{}), ref.Cells(a, C{})
	spare := spoilt[:cap(spoilt)]
	for i := range spare {
		spare[i] = C{Row: -9, Col: -9}
	}
	want := between(C{}, C{Row: 2, Col: 2})
	if !slices.Equal(kept, want) || !slices.Equal(ref.Cells(a, C{}), want) {
		t.Errorf("P2: Cells(%v) tells what was done to another answer", a)
	}
}

// columns tells the letters of all columns, by spelling them one by one.
func columns() []string {
	const letters = "ABCDEFGHIJKLMNOPQRSTUVWXYZ"
	l := strings.Split(letters, "")
	for _, first := range letters {
		for _, second := range letters {
			l = append(l, string(first)+string(second))
		}
	}
	return l[:cols]
}

func TestP801Text(t *testing.T) {
	for _, c := range []struct {
		c    C
		want string
	}{
		{C{}, "A1"},
		{C{Row: 1}, "A2"},
		{C{Col: 1}, "B1"},
		{C{Row: 8}, "A9"},
		{C{Row: 9, Col: 2}, "C10"},
		{C{Row: 99, Col: 24}, "Y100"},
		{C{Row: 11, Col: 25}, "Z12"},
		{C{Row: 11, Col: 26}, "AA12"},
		{C{Row: 1000, Col: 27}, "AB1001"},
		{C{Col: 51}, "AZ1"},
		{C{Col: 52}, "BA1"},
		{C{Row: 9999, Col: 77}, "BZ10000"},
		{C{Col: 233}, "HZ1"},
		{C{Col: 234}, "IA1"},
		{C{Row: 65534, Col: 254}, "IU65535"},
		{C{Row: 65535, Col: 255}, "IV65536"},
	} {
		if got := ref.Text(c.c); got != c.want {
			t.Errorf("P801: Text(%v): %q, want %q", c.c, got, c.want)
		}
		if got, e := ref.Parse(c.want); got != c.c || e != api.OK {
			t.Errorf("P801: Parse(%q): %v, %v, want %v", c.want, got, e, c.c)
		}
	}
}

// TestP801ThereAndBack: each column with some rows, and each row with some
// columns.
func TestP801ThereAndBack(t *testing.T) {
	check := func(c C, want string) {
		if got := ref.Text(c); got != want {
			t.Fatalf("P801: Text(%v): %q, want %q", c, got, want)
		}
		if got, e := ref.Parse(want); got != c || e != api.OK {
			t.Fatalf("P801: Parse(%q): %v, %v, want %v", want, got, e, c)
		}
	}
	names := columns()
	for col, name := range names {
		for _, row := range []int{0, 1, 8, 9, 10, 99, 999, 9998, 9999, 32767, 65534, 65535} {
			check(C{Row: row, Col: col}, name+strconv.Itoa(row+1))
		}
	}
	for row := range rows {
		for _, col := range []int{0, 25, 26, row % cols, 255} {
			check(C{Row: row, Col: col}, names[col]+strconv.Itoa(row+1))
		}
	}
}

func TestP801ParseRefuses(t *testing.T) {
	long := strings.Repeat
	for _, c := range []struct {
		s    string
		want api.Errno
	}{
		{"", api.ErrForm},
		{"A", api.ErrForm},
		{"IV", api.ErrForm},
		{"1", api.ErrForm},
		{"65536", api.ErrForm},
		{"1A", api.ErrForm},
		{"A1A", api.ErrForm},
		{"A1A1", api.ErrForm},
		{"A1:B2", api.ErrForm},
		// small letters
		{"a1", api.ErrForm},
		{"Aa1", api.ErrForm},
		{"aA1", api.ErrForm},
		{"z9", api.ErrForm},
		// a nought ahead
		{"A0", api.ErrForm},
		{"A00", api.ErrForm},
		{"A01", api.ErrForm},
		{"A065536", api.ErrForm},
		{"AA010", api.ErrForm},
		// signs of other kinds, those right beside letters and digits, too
		{" A1", api.ErrForm},
		{"A 1", api.ErrForm},
		{"A1 ", api.ErrForm},
		{"A1\n", api.ErrForm},
		{"A1\x00", api.ErrForm},
		{"$A1", api.ErrForm},
		{"A$1", api.ErrForm},
		{"$A$1", api.ErrForm},
		{"A-1", api.ErrForm},
		{"A+1", api.ErrForm},
		{"A1.", api.ErrForm},
		{"A1.0", api.ErrForm},
		{"A1e1", api.ErrForm},
		{"A1_0", api.ErrForm},
		{"@1", api.ErrForm},
		{"[1", api.ErrForm},
		{"A@1", api.ErrForm},
		{"A[1", api.ErrForm},
		{"A/1", api.ErrForm},
		{"A1/", api.ErrForm},
		{"A1:", api.ErrForm},
		// runes of more than a byte, and bytes that are no rune
		{"\u00C41", api.ErrForm},
		{"\u03911", api.ErrForm},
		{"\u04101", api.ErrForm},
		{"A\u0661", api.ErrForm},
		{"A1\u0661", api.ErrForm},
		{"\uFF21\uFF11", api.ErrForm},
		{"\u01411", api.ErrForm}, // its lowest byte is an A
		{"A\u0131", api.ErrForm}, // its lowest byte is a 1
		{"A1\u0300", api.ErrForm},
		{"\U000100411", api.ErrForm},
		{"\xFFA1", api.ErrForm},
		{"A\xFF1", api.ErrForm},
		{"A1\xFF", api.ErrForm},
		{"A1\uFFFD", api.ErrForm},
		// behind an edge
		{"A65537", api.ErrRange},
		{"IV65537", api.ErrRange},
		{"IW1", api.ErrRange},
		{"IW65536", api.ErrRange},
		{"IW65537", api.ErrRange},
		{"IZ1", api.ErrRange},
		{"JA1", api.ErrRange},
		{"ZZ1", api.ErrRange},
		{"AAA1", api.ErrRange},
		{"XFD1048576", api.ErrRange},
		{"A65546", api.ErrRange},
		{"A655360", api.ErrRange},
		{"A99999", api.ErrRange},
		{"A100000", api.ErrRange},
		// what would be a place, were it reckoned in 16, 32 or 64 bits
		{"A4294967296", api.ErrRange},
		{"A4294967297", api.ErrRange},
		{"A18446744073709551616", api.ErrRange},
		{"A18446744073709551617", api.ErrRange},
		{"A36893488147419103233", api.ErrRange},
		{"A9223372036854775807", api.ErrRange},
		{"A9223372036854775808", api.ErrRange},
		{"CRXP1", api.ErrRange},           // column 65536
		{"CRXQ1", api.ErrRange},           // column 65537
		{"MWLQKWV1", api.ErrRange},        // column 2^32
		{"MWLQKWW1", api.ErrRange},        // column 2^32 + 1
		{"GKGWBYLWRXTLPP1", api.ErrRange}, // column 2^64
		{"GKGWBYLWRXTLPQ1", api.ErrRange}, // column 2^64 + 1
		{long("A", 1000) + "1", api.ErrRange},
		{"A1" + long("0", 1000), api.ErrRange},
		{long("Z", 100000) + long("9", 100000), api.ErrRange},
		// both apply: the form is ahead
		{"ZZZ1 ", api.ErrForm},
		{"ZZZ", api.ErrForm},
		{"ZZZ0", api.ErrForm},
		{"ZZZ01", api.ErrForm},
		{"A99999A", api.ErrForm},
		{"A99999\xFF", api.ErrForm},
		{long("A", 100000), api.ErrForm},
		{long("A", 100000) + "0", api.ErrForm},
		{"A" + long("9", 100000) + "a", api.ErrForm},
	} {
		if got, e := ref.Parse(c.s); got != (C{}) || e != c.want {
			t.Errorf("P801: Parse(%.24q): %v, %v, want %v", c.s, got, e, c.want)
		}
	}
}

// parsed tells what Parse is to tell of s, by a pattern and numbers without a
// bound.
func parsed(form *regexp.Regexp, names []string, s string) (C, api.Errno) {
	parts := form.FindStringSubmatch(s)
	if parts == nil {
		return C{}, api.ErrForm
	}
	col := slices.Index(names, parts[1])
	row, _ := new(big.Int).SetString(parts[2], 10)
	if col < 0 || row.Cmp(big.NewInt(rows)) > 0 {
		return C{}, api.ErrRange
	}
	return C{Row: int(row.Int64()) - 1, Col: col}, api.OK
}

// TestP801ParseOfAllShort goes through all texts of up to so many signs of some;
// what is taken is told again just so.
func TestP801ParseOfAllShort(t *testing.T) {
	form := regexp.MustCompile(`^([A-Z]+)([1-9][0-9]*)\z`)
	names := columns()
	check := func(s string) {
		want, wantE := parsed(form, names, s)
		got, e := ref.Parse(s)
		if got != want || e != wantE {
			t.Fatalf("P801: Parse(%q): %v, %v, want %v, %v", s, got, e, want, wantE)
		}
		if e == api.OK && ref.Text(got) != s {
			t.Fatalf("P801: Text(Parse(%q)): %q", s, ref.Text(got))
		}
	}
	var all func(s string, signs []string, n int)
	all = func(s string, signs []string, n int) {
		check(s)
		if n == 0 {
			return
		}
		for _, sign := range signs {
			all(s+sign, signs, n-1)
		}
	}
	all("", strings.Split("AIVWZa0156 ", ""), 5)
	all("", []string{"A", "1", "0", "\xC3", "\x84", "\u00C4", "\u0661"}, 5)
	for _, head := range []string{"A", "IV", "IW", "AAA", "6", ""} {
		all(head, strings.Split("05679", ""), 6)
	}
	for _, tail := range []string{"1", "65536", "65537", "0", ""} {
		for _, name := range append(columns(), "IW", "IX", "IY", "IZ", "JA", "ZZ", "AAA", "AIV", "IVA", "i", "iv", "Iv") {
			check(name + tail)
		}
	}
}

// TestP801TextOfWhatMayNotBe: of a cell that there is not no more is promised
// than that the call ends (P1).
func TestP801TextOfWhatMayNotBe(t *testing.T) {
	for _, row := range numbers() {
		for _, col := range numbers() {
			ref.Text(C{Row: row, Col: col})
		}
	}
}
