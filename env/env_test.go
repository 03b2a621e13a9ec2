package env_test

import (
	"math"
	"math/rand"
	"slices"
	"strconv"
	"strings"
	"testing"

	"cashbook/api"
	"cashbook/dec"
	"cashbook/env"
	"cashbook/expr"
	"cashbook/ref"
	"cashbook/val"
)

type (
	E = env.Env
	P = env.Place
	S = env.Slot
	V = val.Val
	X = expr.Expr
)

// The bounds of what is promised, in digits.
const (
	mostSheets = 8
	mostSlots  = 4096
	mostNames  = 1024
	lastRow    = 65535
	lastCol    = 255
)

func at(sheet, row, col int) P { return P{Sheet: sheet, At: ref.Cell{Row: row, Col: col}} }

func num(m int64) V { return V{Kind: 1, N: dec.Dec{M: m}} }

func text(s string) V { return V{Kind: 2, S: s} }

func slot(sheet, row, col int, v V) S { return S{P: at(sheet, row, col), V: v} }

// of tells an Env without Names.
func of(sheets int, l ...S) E { return E{Sheets: sheets, Slots: l} }

// named tells an Env without Slots.
func named(l ...X) E { return E{Sheets: 1, Names: l} }

func one() X { return X{Kind: 1, V: num(1)} }

func cell(row, col int) X { return X{Kind: 2, A: ref.Area{A: ref.Ref{Row: row, Col: col}}} }

func name(n int) X { return X{Kind: 6, Op: n} }

func paren(kids ...X) X { return X{Kind: 10, Kids: kids} }

func bin(a, b X) X { return X{Kind: 8, Op: 1, Kids: []X{a, b}} }

func call(kids ...X) X { return X{Kind: 9, Kids: kids} }

// nested tells one that is so deep.
func nested(depth int) X {
	e := one()
	for range depth - 1 {
		e = paren(e)
	}
	return e
}

// many tells so many Slots, in order, on one sheet.
func many(n int) []S {
	var l []S
	for k := range n {
		l = append(l, slot(0, k/256, k%256, num(int64(k))))
	}
	return l
}

func show(v V) string {
	return strconv.Itoa(v.Kind) + "|" + strconv.FormatInt(v.N.M, 10) + "e" + strconv.Itoa(v.N.S) + "|" + strconv.Quote(v.S) + "|" + strconv.FormatBool(v.B) + "|" + strconv.Itoa(v.E)
}

func showPlace(p P) string {
	return strconv.Itoa(p.Sheet) + "/" + strconv.Itoa(p.At.Row) + "/" + strconv.Itoa(p.At.Col)
}

// showTree tells e such that two that differ are told otherwise.
func showTree(e X) string {
	s := "{" + strconv.Itoa(e.Kind) + " " + show(e.V) + " "
	for _, r := range []ref.Ref{e.A.A, e.A.B} {
		s += strconv.Itoa(r.Row) + "," + strconv.Itoa(r.Col) + strconv.FormatBool(r.RelRow) + strconv.FormatBool(r.RelCol) + " "
	}
	s += "S" + strconv.Itoa(e.Sheet) + " O" + strconv.Itoa(e.Op)
	for _, kid := range e.Kids {
		s += showTree(kid)
	}
	return s + "}"
}

func showAll(e E) string {
	s := strconv.Itoa(e.Sheets) + "\n"
	for _, x := range e.Slots {
		s += showPlace(x.P) + " " + show(x.V) + "\n"
	}
	for _, x := range e.Names {
		s += showTree(x) + "\n"
	}
	return s
}

// ends tells places about all edges, each sheet's and those of an int, in order.
func ends(sheets int) []P {
	var l []P
	for _, sheet := range slices.Compact([]int{math.MinInt, -1, 0, sheets - 1, sheets, math.MaxInt}) {
		for _, row := range []int{math.MinInt, -1, 0, 1, 300, lastRow, lastRow + 1, math.MaxInt} {
			for _, col := range []int{math.MinInt, -1, 0, 1, lastCol, lastCol + 1, math.MaxInt} {
				l = append(l, at(sheet, row, col))
			}
		}
	}
	return l
}

func isThere(p P, sheets int) bool {
	return 0 <= p.Sheet && p.Sheet < sheets && 0 <= p.At.Row && p.At.Row <= lastRow && 0 <= p.At.Col && p.At.Col <= lastCol
}

func TestP1401Less(t *testing.T) {
	l := ends(3)
	for i, a := range l {
		for k, b := range l {
			if got := env.Less(a, b); got != (i < k) {
				t.Errorf("P1401: Less(%s, %s): %v", showPlace(a), showPlace(b), got)
			}
		}
	}
	for _, c := range []struct {
		a, b P
		want bool
	}{
		{at(0, 9, 9), at(1, 0, 0), true}, // the sheet is ahead of all
		{at(1, 0, 0), at(0, 9, 9), false},
		{at(1, 2, 9), at(1, 3, 0), true}, // then the row
		{at(1, 3, 0), at(1, 2, 9), false},
		{at(1, 2, 3), at(1, 2, 4), true}, // then the column
		{at(1, 2, 4), at(1, 2, 3), false},
		{at(1, 2, 3), at(1, 2, 3), false},
	} {
		if got := env.Less(c.a, c.b); got != c.want {
			t.Errorf("P1401: Less(%s, %s): %v", showPlace(c.a), showPlace(c.b), got)
		}
	}
}

func TestP1401CheckTakes(t *testing.T) {
	for _, c := range []struct {
		name string
		e    E
	}{
		{"one sheet, empty", of(1)},
		{"eight sheets, empty", of(mostSheets)},
		{"empty lists", E{Sheets: 1, Slots: []S{}, Names: []X{}}},
		{"the first place", of(1, slot(0, 0, 0, num(1)))},
		{"the last place", of(8, slot(7, lastRow, lastCol, num(1)))},
		{"all Kinds", of(2, slot(0, 0, 0, num(0)), slot(0, 0, 1, text("")), slot(0, 1, 0, V{Kind: 3}), slot(1, 0, 0, val.Fault(0)))},
		{"by column, row, sheet", of(3, slot(0, 4, 4, num(1)), slot(0, 4, 5, num(1)), slot(0, 5, 0, num(1)), slot(2, 0, 0, num(1)))},
		{"as many Slots as may be", of(1, many(mostSlots)...)},
		{"as many Names as may be", named(slices.Repeat([]X{one()}, mostNames)...)},
		{"as many of both", E{Sheets: 1, Slots: many(mostSlots), Names: slices.Repeat([]X{one()}, mostNames)}},
		{"Names of all but Names", named(one(), cell(5, 5), bin(one(), cell(0, 0)), nested(16), call())},
		{"a Name's sheet that this Env has not", named(X{Kind: 4, Sheet: 7})},
	} {
		if got := env.Check(c.e); got != api.OK {
			t.Errorf("P1401: Check of %s: %v", c.name, got)
		}
	}
}

func TestP1401CheckRefuses(t *testing.T) {
	for _, c := range []struct {
		name string
		e    E
		want api.Errno
	}{
		{"nothing at all", E{}, api.ErrArg},
		{"no sheet", of(0), api.ErrArg},
		{"less than none", of(-1), api.ErrArg},
		{"nine sheets", of(mostSheets + 1), api.ErrArg},
		{"no int's worth of sheets", of(math.MinInt), api.ErrArg},
		{"too many sheets", of(math.MaxInt), api.ErrArg},
		{"one Slot too many", of(1, many(mostSlots+1)...), api.ErrLong},
		{"one Name too many", named(slices.Repeat([]X{one()}, mostNames+1)...), api.ErrLong},
		{"a sheet behind the last", of(1, slot(1, 0, 0, num(1))), api.ErrRange},
		{"a sheet behind the last of eight", of(8, slot(8, 0, 0, num(1))), api.ErrRange},
		{"a sheet below 0", of(1, slot(-1, 0, 0, num(1))), api.ErrRange},
		{"a row behind the last", of(1, slot(0, lastRow+1, 0, num(1))), api.ErrRange},
		{"a row below 0", of(1, slot(0, -1, 0, num(1))), api.ErrRange},
		{"a column behind the last", of(1, slot(0, 0, lastCol+1, num(1))), api.ErrRange},
		{"a column below 0", of(1, slot(0, 0, -1, num(1))), api.ErrRange},
		{"a Blank", of(1, slot(0, 0, 0, V{})), api.ErrArg},
		{"a Blank that has a text", of(1, slot(0, 0, 0, V{S: "a"})), api.ErrArg},
		{"a Kind that is none", of(1, slot(0, 0, 0, V{Kind: 5})), api.ErrArg},
		{"a number that is none", of(1, slot(0, 0, 0, V{Kind: 1, N: dec.Dec{M: 10, S: 1}})), api.ErrArg},
		{"an Err that is none", of(1, slot(0, 0, 0, val.Fault(1))), api.ErrArg},
		{"a text that is none", of(1, slot(0, 0, 0, text("\xFF"))), api.ErrForm},
		{"a text that is too long", of(1, slot(0, 0, 0, text(strings.Repeat("a", 1001)))), api.ErrLong},
		{"a place twice", of(1, slot(0, 1, 1, num(1)), slot(0, 1, 1, num(2))), api.ErrOrder},
		{"columns that fall", of(1, slot(0, 1, 1, num(1)), slot(0, 1, 0, num(2))), api.ErrOrder},
		{"rows that fall", of(1, slot(0, 1, 1, num(1)), slot(0, 0, 2, num(2))), api.ErrOrder},
		{"sheets that fall", of(2, slot(1, 1, 1, num(1)), slot(0, 2, 2, num(2))), api.ErrOrder},
		{"the last one out of order", of(1, append(many(9), slot(0, 0, 7, num(2)))...), api.ErrOrder},
		{"a Name in a Name", named(name(0)), api.ErrName},
		{"a Name deep in a Name", named(call(one(), paren(bin(cell(0, 0), name(1023))))), api.ErrName},
		{"an empty formula", named(X{}), api.ErrArg},
		{"a formula of a Name that is none", named(name(mostNames)), api.ErrArg},
		{"a formula that is too deep", named(nested(17)), api.ErrDeep},
		{"a formula that is too long", named(call(slices.Repeat([]X{one()}, 1024)...)), api.ErrLong},
		{"a formula's place that is none", named(cell(0, lastCol+1)), api.ErrRange},
		{"a formula's text that is none", named(X{Kind: 1, V: text("\xFF")}), api.ErrForm},
	} {
		if got := env.Check(c.e); got != c.want {
			t.Errorf("P1401: Check of %s: %v, want %v", c.name, got, c.want)
		}
	}
}

// TestP1401CheckInOrder: where several errors apply, the first one in the
// chapter's order is told, of lists that of the first element that has one.
func TestP1401CheckInOrder(t *testing.T) {
	good, gone, form, order := slot(0, 1, 1, num(1)), slot(1, 0, 0, num(1)), slot(0, 2, 2, text("\xFF")), slot(0, 0, 0, num(1))
	longText := slot(0, 3, 3, text(strings.Repeat("a", 1001)))
	manyNames := slices.Repeat([]X{name(0)}, mostNames+1)
	for _, c := range []struct {
		name string
		e    E
		want api.Errno
	}{
		{"sheets, too many Slots", of(0, many(mostSlots+1)...), api.ErrArg},
		{"sheets, too many Names", E{Sheets: 9, Names: manyNames}, api.ErrArg},
		{"sheets, a place", of(0, slot(0, 0, 0, num(1))), api.ErrArg},
		{"too many Slots, the first one's place", of(1, append([]S{gone}, many(mostSlots)...)...), api.ErrLong},
		{"too many Slots, a Name", E{Sheets: 1, Slots: many(mostSlots + 1), Names: []X{name(0)}}, api.ErrLong},
		{"too many Names, a place", E{Sheets: 1, Slots: []S{gone}, Names: manyNames}, api.ErrLong},
		{"too many Names, their Names", named(manyNames...), api.ErrLong},
		{"a place, its value's form", of(1, slot(1, 0, 0, text("\xFF"))), api.ErrRange},
		{"a place, a Blank", of(1, slot(0, -1, 0, V{})), api.ErrRange},
		{"a place, the order", of(1, good, slot(-1, 0, 0, num(1))), api.ErrRange},
		{"a value's form, the order", of(1, good, slot(0, 0, 0, text("\xFF"))), api.ErrForm},
		{"a Blank, the order", of(1, good, slot(0, 0, 0, V{})), api.ErrArg},
		{"a Blank at a place twice", of(1, good, slot(0, 1, 1, V{})), api.ErrArg},
		{"the order, then a place", of(1, good, order, gone), api.ErrOrder},
		{"a place, then the order", of(1, gone, order), api.ErrRange},
		{"a form, then a length", of(1, good, form, longText), api.ErrForm},
		{"a length, then a form", of(1, good, longText, slot(0, 4, 4, text("\xFF"))), api.ErrLong},
		{"a Slot, then a Name", E{Sheets: 1, Slots: []S{good, order}, Names: []X{name(0)}}, api.ErrOrder},
		{"a Name's formula, a Name in it", named(bin(name(0), cell(0, -1))), api.ErrRange},
		{"a Name's formula that is too deep, a Name in it", named(bin(name(0), nested(16))), api.ErrDeep},
		{"a Name in the first, the second one's formula", named(name(0), cell(0, -1)), api.ErrName},
		{"the first one's formula, a Name in the second", named(cell(0, -1), name(0)), api.ErrRange},
		{"the last one of many", named(append(slices.Repeat([]X{one()}, mostNames-1), name(0))...), api.ErrName},
	} {
		if got := env.Check(c.e); got != c.want {
			t.Errorf("P1401: Check of %s: %v, want %v", c.name, got, c.want)
		}
	}
}

// TestP1401CheckOfAllPlaces holds Check against the bounds for places about all
// edges, and for each two of them in a row.
func TestP1401CheckOfAllPlaces(t *testing.T) {
	for _, sheets := range []int{1, 2, 5, 8} {
		l := ends(sheets)
		for i, a := range l {
			for k, b := range l {
				want := api.OK
				switch {
				case !isThere(a, sheets) || !isThere(b, sheets):
					want = api.ErrRange
				case i >= k:
					want = api.ErrOrder
				}
				if got := env.Check(of(sheets, S{P: a, V: num(1)}, S{P: b, V: num(1)})); got != want {
					t.Fatalf("P1401: Check of %s, %s among %d sheets: %v, want %v", showPlace(a), showPlace(b), sheets, got, want)
				}
			}
		}
	}
}

func TestP1401Get(t *testing.T) {
	e := of(3,
		slot(0, 0, 0, num(1)), slot(0, 0, 2, text("a")), slot(0, 7, 1, V{Kind: 3, B: true}), slot(0, lastRow, lastCol, num(4)),
		slot(2, 0, 0, val.Fault(42)), slot(2, 0, 1, V{Kind: 3}), slot(2, 9, 9, V{Kind: 1, N: dec.Dec{M: -5, S: 1}}))
	blank, gone := V{}, V{Kind: 4, E: 0x17}
	for _, c := range []struct {
		p    P
		want V
	}{
		{at(0, 0, 0), num(1)},
		{at(0, 0, 2), text("a")},
		{at(0, 7, 1), V{Kind: 3, B: true}},
		{at(0, lastRow, lastCol), num(4)},
		{at(2, 0, 0), val.Fault(42)},
		{at(2, 0, 1), V{Kind: 3}},
		{at(2, 9, 9), V{Kind: 1, N: dec.Dec{M: -5, S: 1}}},
		// between two, behind all, on a sheet that has none
		{at(0, 0, 1), blank},
		{at(0, 0, 3), blank},
		{at(0, 7, 0), blank},
		{at(0, 1, 7), blank},
		{at(1, 0, 0), blank},
		{at(1, lastRow, lastCol), blank},
		{at(2, 1, 0), blank},
		{at(2, 9, 10), blank},
		{at(2, lastRow, lastCol), blank},
		// no such place
		{at(3, 0, 0), gone},
		{at(-1, 0, 0), gone},
		{at(8, 0, 0), gone},
		{at(0, lastRow+1, 0), gone},
		{at(0, -1, 0), gone},
		{at(0, 0, lastCol+1), gone},
		{at(0, 0, -1), gone},
		{at(math.MaxInt, math.MaxInt, math.MaxInt), gone},
		{at(math.MinInt, math.MinInt, math.MinInt), gone},
	} {
		if got := env.Get(e, c.p); got != c.want {
			t.Errorf("P1401: Get(e, %s): %s, want %s", showPlace(c.p), show(got), show(c.want))
		}
	}
	if got := env.Get(of(1), at(0, 0, 0)); got != blank {
		t.Errorf("P1401: Get of an empty Env: %s", show(got))
	}
}

// TestP1401GetOfAny holds Get, for each count of Slots, at each one and beside.
func TestP1401GetOfAny(t *testing.T) {
	for n := range 40 {
		e := of(1)
		for k := range n {
			e.Slots = append(e.Slots, slot(0, k/3, 1+2*(k%3), num(int64(k))))
		}
		for k := range 42 {
			want := V{}
			if k < n {
				want = num(int64(k))
			}
			if got := env.Get(e, at(0, k/3, 1+2*(k%3))); got != want {
				t.Errorf("P1401: Get of the Slot %d of %d: %s", k, n, show(got))
			}
			for _, col := range []int{0, 2, 4, 6} {
				if got := env.Get(e, at(0, k/3, col)); got != (V{}) {
					t.Errorf("P1401: Get beside, of %d: %s", n, show(got))
				}
			}
		}
	}
	e := of(1, many(mostSlots)...)
	for k, s := range e.Slots {
		if got := env.Get(e, s.P); got != num(int64(k)) {
			t.Errorf("P1401: Get of the Slot %d of %d: %s", k, mostSlots, show(got))
		}
	}
	if got := env.Get(e, at(0, 16, 0)); got != (V{}) {
		t.Errorf("P1401: Get behind all of %d: %s", mostSlots, show(got))
	}
}

func TestP1401Put(t *testing.T) {
	a, b, c := slot(0, 1, 1, num(1)), slot(0, 1, 3, text("b")), slot(1, 0, 0, V{Kind: 3})
	for _, x := range []struct {
		name string
		e    E
		p    P
		v    V
		want E
	}{
		{"the first one", of(2), at(1, 2, 3), num(5), of(2, slot(1, 2, 3, num(5)))},
		{"ahead of all", of(2, a, b), at(0, 0, 9), num(5), of(2, slot(0, 0, 9, num(5)), a, b)},
		{"right ahead of one", of(2, a, b), at(0, 1, 0), num(5), of(2, slot(0, 1, 0, num(5)), a, b)},
		{"between two", of(2, a, b, c), at(0, 1, 2), num(5), of(2, a, slot(0, 1, 2, num(5)), b, c)},
		{"behind a sheet's last", of(2, a, b, c), at(0, 9, 0), num(5), of(2, a, b, slot(0, 9, 0, num(5)), c)},
		{"behind all", of(2, a, b, c), at(1, 0, 1), num(5), of(2, a, b, c, slot(1, 0, 1, num(5)))},
		{"in the first one's place", of(2, a, b, c), a.P, text("x"), of(2, slot(0, 1, 1, text("x")), b, c)},
		{"in another one's place", of(2, a, b, c), b.P, val.Fault(7), of(2, a, slot(0, 1, 3, val.Fault(7)), c)},
		{"in the last one's place", of(2, a, b, c), c.P, V{Kind: 3, B: true}, of(2, a, b, slot(1, 0, 0, V{Kind: 3, B: true}))},
		{"what is there", of(2, a, b, c), b.P, b.V, of(2, a, b, c)},
		{"a Blank for the first one", of(2, a, b, c), a.P, V{}, of(2, b, c)},
		{"a Blank for another one", of(2, a, b, c), b.P, V{}, of(2, a, c)},
		{"a Blank for the last one", of(2, a, b, c), c.P, V{}, of(2, a, b)},
		{"a Blank for the only one", of(2, a), a.P, V{}, of(2)},
		{"a Blank where nothing is", of(2, a, b, c), at(0, 1, 2), V{}, of(2, a, b, c)},
		{"a Blank ahead of all", of(2, a), at(0, 0, 0), V{}, of(2, a)},
		{"a Blank behind all", of(2, a), at(1, 9, 9), V{}, of(2, a)},
		{"a Blank into an empty one", of(2), at(0, 0, 0), V{}, of(2)},
		{"a Num 0 is no Blank", of(2, a), a.P, num(0), of(2, slot(0, 1, 1, num(0)))},
		{"an empty text is no Blank", of(2, a), a.P, text(""), of(2, slot(0, 1, 1, text("")))},
		{"a FALSE is no Blank", of(2, a), a.P, V{Kind: 3}, of(2, slot(0, 1, 1, V{Kind: 3}))},
		{"a #NULL! is no Blank", of(2, a), a.P, val.Fault(0), of(2, slot(0, 1, 1, val.Fault(0)))},
		{"the last place", of(8), at(7, lastRow, lastCol), num(5), of(8, slot(7, lastRow, lastCol, num(5)))},
	} {
		for _, names := range [][]X{nil, {one()}, {cell(1, 2), bin(one(), call(one(), paren(cell(0, 0)), call())), call()}} {
			x.e.Names, x.want.Names = names, names
			got := env.Put(x.e, x.p, x.v)
			if showAll(got) != showAll(x.want) {
				t.Errorf("P1401: Put of %s:\n%swant\n%s", x.name, showAll(got), showAll(x.want))
			}
			if wrong := env.Check(got); wrong != api.OK {
				t.Errorf("P1401: Check of a Put of %s: %v", x.name, wrong)
			}
		}
	}
}

// TestP1401PutAtTheMost: Put itself has no bound; Check tells of one more.
func TestP1401PutAtTheMost(t *testing.T) {
	e := of(1, many(mostSlots-1)...)
	e = env.Put(e, at(0, 100, 0), num(1))
	if wrong := env.Check(e); len(e.Slots) != mostSlots || wrong != api.OK {
		t.Errorf("P1401: Put up to %d Slots: %d, %v", mostSlots, len(e.Slots), wrong)
	}
	other := env.Put(e, at(0, 3, 3), text("other"))
	if wrong := env.Check(other); len(other.Slots) != mostSlots || wrong != api.OK || env.Get(other, at(0, 3, 3)) != text("other") {
		t.Errorf("P1401: Put in place of one of %d: %d, %v", mostSlots, len(other.Slots), wrong)
	}
	more := env.Put(e, at(0, 200, 0), num(1))
	if wrong := env.Check(more); len(more.Slots) != mostSlots+1 || wrong != api.ErrLong || env.Get(more, at(0, 200, 0)) != num(1) {
		t.Errorf("P1401: Put of one more than %d: %d, %v", mostSlots, len(more.Slots), wrong)
	}
}

// TestP1401PutRefuses: nothing is put at a place that there is not, and nothing
// that is no value; nothing there is moved to another one.
func TestP1401PutRefuses(t *testing.T) {
	e := of(2, slot(0, 0, 0, num(1)), slot(1, lastRow, lastCol, num(2)))
	e.Names = []X{bin(one(), cell(1, 1))}
	for _, p := range ends(2) {
		for _, v := range []V{{}, num(5), {Kind: 9}, text("\xFF"), {S: "a"}, val.Fault(3), {Kind: 1, N: dec.Dec{M: 10, S: 1}}} {
			if isThere(p, 2) && val.Check(v) == api.OK {
				continue
			}
			if got := env.Put(e, p, v); showAll(got) != showAll(e) {
				t.Errorf("P9: Put(e, %s, %s):\n%s", showPlace(p), show(v), showAll(got))
			}
		}
	}
}

// TestP1401PutAndGetOfMany holds a long row of Puts against a map.
func TestP1401PutAndGetOfMany(t *testing.T) {
	random := rand.New(rand.NewSource(1401))
	values := []V{{}, {}, num(1), num(2), text(""), text("a"), {Kind: 3}, {Kind: 3, B: true}, val.Fault(7)}
	for _, edge := range []int{2, 3, 6} {
		e, model := of(edge), map[P]V{}
		e.Names = []X{cell(edge, edge)}
		for range 3000 {
			p, v := at(random.Intn(edge), random.Intn(edge), random.Intn(edge)), values[random.Intn(len(values))]
			e, model[p] = env.Put(e, p, v), v
			if v.Kind == 0 {
				delete(model, p)
			}
			var want []S
			for sheet := range edge {
				for row := range edge {
					for col := range edge {
						p := at(sheet, row, col)
						if v, ok := model[p]; ok {
							want = append(want, S{P: p, V: v})
						}
						if got := env.Get(e, p); got != model[p] {
							t.Fatalf("P1401: Get(e, %s): %s, want %s", showPlace(p), show(got), show(model[p]))
						}
					}
				}
			}
			if !slices.Equal(e.Slots, want) || env.Check(e) != api.OK || e.Sheets != edge || len(e.Names) != 1 {
				t.Fatalf("P1401: Put(e, %s, %s):\n%s", showPlace(p), show(v), showAll(e))
			}
		}
	}
}

// different tells Envs each of which differs from all others.
func different() []E {
	l := []E{{}, of(1), of(2), of(-1)}
	for _, p := range []P{at(0, 0, 0), at(1, 0, 0), at(0, 1, 0), at(0, 0, 1), at(-1, 70000, 300)} {
		for _, v := range []V{{}, num(0), num(1), {Kind: 1, N: dec.Dec{M: 1, S: 1}}, text(""), text("a"), {Kind: 3}, {Kind: 3, B: true}, val.Fault(0), val.Fault(7), {S: "a"}} {
			l = append(l, of(1, S{P: p, V: v}), of(2, S{P: p, V: v}))
		}
	}
	a, b := slot(0, 0, 0, num(1)), slot(0, 0, 1, num(2))
	l = append(l, of(1, a, b), of(1, b, a), of(1, a, a), of(1, a, b, b))
	for _, x := range []X{{}, one(), name(0), name(1), cell(1, 0), cell(0, 1), paren(one()), paren(paren(one())), bin(one(), cell(0, 0)), bin(cell(0, 0), one()), call(), call(one()), call(call(), one()), call(call(one())), nested(40)} {
		l = append(l, named(x), named(x, name(9)), named(name(9), x), E{Sheets: 1, Slots: []S{a}, Names: []X{x}}, E{Sheets: 2, Names: []X{x}})
	}
	return l
}

func TestP1401Same(t *testing.T) {
	l := different()
	for i, a := range l {
		for k, b := range l {
			if got := env.Same(a, b); got != (i == k) {
				t.Errorf("P1401: Same of\n%sand\n%s: %v", showAll(a), showAll(b), got)
			}
		}
		if b := roomy(a); !env.Same(a, b) || !env.Same(b, a) {
			t.Errorf("P1401, P2: Same of\n%sand the same with spare room: false", showAll(a))
		}
	}
	if a, b := of(1), (E{Sheets: 1, Slots: []S{}, Names: []X{}}); !env.Same(a, b) || !env.Same(b, a) {
		t.Error("P1401, P2: Same of no lists and empty ones: false")
	}
	if a, b := named(call()), named(X{Kind: 9, Kids: []X{}}); !env.Same(a, b) || !env.Same(b, a) {
		t.Error("P1401, P2: Same of no Kids and an empty list of them: false")
	}
}
