package eval_test

import (
	"math"
	"slices"
	"strings"
	"testing"

	"cashbook/env"
	"cashbook/eval"
	"cashbook/expr"
	"cashbook/ref"
)

// grid is a formula in words, so many rows and columns, and what Array is to
// tell of it.
type grid struct {
	s          string
	rows, cols int
	want       []V
}

func checkArraysAt(t *testing.T, v E, p P, grids []grid) {
	t.Helper()
	for _, g := range grids {
		if got := eval.Array(parse(g.s, p), v, p, g.rows, g.cols); !slices.Equal(got, g.want) {
			t.Errorf("P1501: Array of %s, %d by %d:\n%s, want\n%s", g.s, g.rows, g.cols, showList(got), showList(g.want))
		}
	}
}

func checkArrays(t *testing.T, grids []grid) {
	t.Helper()
	checkArraysAt(t, book(), here, grids)
}

// all tells n times v.
func all(n int, v V) []V { return slices.Repeat([]V{v}, n) }

func nums(l ...int64) []V {
	var out []V
	for _, m := range l {
		out = append(out, num(m))
	}
	return out
}

func TestP1501ArrayOfAreas(t *testing.T) {
	checkArrays(t, []grid{
		{"A1:A3", 3, 1, nums(1, 2, 3)}, {"A3:A1", 3, 1, nums(1, 2, 3)}, {"$A$1:A3", 3, 1, nums(1, 2, 3)},
		{"S2!A1:B3", 3, 2, nums(10, 40, 20, 50, 30, 60)}, {"S2!B3:A1", 3, 2, nums(10, 40, 20, 50, 30, 60)}, {"S2!A3:B1", 3, 2, nums(10, 40, 20, 50, 30, 60)},
		{"A1:C3", 3, 3, []V{num(1), text("x"), num(0), num(2), yes, text("5"), num(3), na, part(5, 1)}},
		{"A1:C1", 1, 3, []V{num(1), text("x"), num(0)}}, {"A1:A1", 1, 1, nums(1)}, {"C1:C1", 1, 1, nums(0)}, {"B3:B3", 1, 1, []V{na}}, {"S3!A1:B2", 2, 2, nums(0, 0, 0, 0)},
		{"(A1:A3)", 3, 1, nums(1, 2, 3)}, {"((S2!A1:B1))", 1, 2, nums(10, 40)},
		// of any other size
		{"A1:A3", 1, 3, all(3, value)}, {"A1:A3", 2, 1, all(2, value)}, {"A1:A3", 4, 1, all(4, value)}, {"A1:A3", 3, 2, all(6, value)}, {"S2!A1:B3", 2, 3, all(6, value)}, {"S2!A1:B3", 6, 1, all(6, value)}, {"S2!A1:B3", 1, 6, all(6, value)},
		{"A1:A1", 1, 2, all(2, value)}, {"A1:A1", 2, 1, all(2, value)}, {"A1:B1", 1, 1, all(1, value)}, {"A1:A2", 1, 1, all(1, value)}, {"(A1:A3)", 1, 3, all(3, value)},
	})
	// on from's sheet
	checkArraysAt(t, book(), at(1, 0, 0), []grid{{"A1:B3", 3, 2, nums(10, 40, 20, 50, 30, 60)}, {"S1!A1:A3", 3, 1, nums(1, 2, 3)}})
}

// TestP1501ArrayFromOneBase: each cell is told from from, not from where it
// stands.
func TestP1501ArrayFromOneBase(t *testing.T) {
	for _, from := range []string{"A1", "E5", "IV65536", "A65535"} {
		checkArraysAt(t, book(), place(0, from), []grid{
			{"A1", 2, 2, nums(1, 1, 1, 1)}, {"A2+S2!A1", 2, 1, nums(12, 12)}, {"A1:A3+A1", 3, 1, nums(2, 3, 4)}, {"SUM(A1:A3)", 2, 2, nums(6, 6, 6, 6)},
		})
	}
	rel := X{Kind: 3, A: ref.Area{A: ref.Ref{RelRow: true, RelCol: true}, B: ref.Ref{Row: 1, RelRow: true, RelCol: true}}}
	for _, c := range []struct {
		p    P
		want []V
	}{{at(0, 0, 0), nums(1, 2)}, {at(0, 1, 0), nums(2, 3)}, {at(1, 1, 1), nums(50, 60)}, {at(0, mostRows-2, mostCols-1), nums(0, 99)}, {at(0, 1-mostRows, mostCols), nums(2, 3)}, {at(3, 0, 0), all(2, refE)}} {
		if got := eval.Array(rel, book(), c.p, 2, 1); !slices.Equal(got, c.want) {
			t.Errorf("P1501: at %v: %s, want %s", c.p, showList(got), showList(c.want))
		}
	}
	// what goes round at an edge has all between its two cells
	if got := eval.Array(rel, book(), at(0, mostRows-1, 0), 2, 1); !slices.Equal(got, all(2, refE)) {
		t.Errorf("P1501: round at the edge: %s", showList(got))
	}
}

func TestP1501ArrayOfSigns(t *testing.T) {
	checkArrays(t, []grid{
		{"-A1:A3", 3, 1, nums(-1, -2, -3)}, {"A1:A3%", 3, 1, []V{part(1, 2), part(2, 2), part(3, 2)}}, {"+A1:C1", 1, 3, []V{num(1), text("x"), num(0)}},
		{"A1:A3*2", 3, 1, nums(2, 4, 6)}, {"2-A1:A3", 3, 1, nums(1, 0, -1)}, {"A1:A3*S2!A1:A3", 3, 1, nums(10, 40, 90)}, {"A1:C1&A2:C2", 1, 3, []V{text("12"), text("xTRUE"), text("5")}}, {"S2!A1:B3>35", 3, 2, []V{no, yes, no, yes, no, yes}},
		{"(A1:A3+1)*(A1:A3-1)", 3, 1, nums(0, 3, 8)}, {"A1:A3=C1:C3", 3, 1, []V{no, no, no}}, {"C1:C3=0", 3, 1, []V{yes, no, no}},
		// an Err of one cell stands in that cell
		{"B1:B3+1", 3, 1, []V{value, num(2), na}}, {"A1:A3/(A1:A3-2)", 3, 1, []V{num(-1), div0, num(3)}},
		// of any other size: #VALUE! is what it tells, so an Err ahead of it is told
		{"A1:A3+A1:C1", 3, 1, all(3, value)}, {"A1:A3+A1:C1", 1, 3, []V{value, value, value}}, {"A1:A2+1", 3, 1, all(3, value)}, {"-A1:A2", 3, 1, all(3, value)}, {"A1:A1*2", 3, 1, all(3, value)},
		{"#N/A+A1:A2", 3, 1, all(3, na)}, {"A1:A2+#N/A", 3, 1, all(3, value)}, {"B1:B3+A1:A2", 3, 1, []V{value, value, na}},
	})
}

// TestP1501ArrayWhole: as args of these Areas are whole, of whatever size.
func TestP1501ArrayWhole(t *testing.T) {
	checkArrays(t, []grid{
		{"SUM(A1:A3)", 3, 1, nums(6, 6, 6)}, {"SUM(A1:A3)", 1, 2, nums(6, 6)}, {"SUM(1,A1:A3,S2!A1:B3)", 2, 1, nums(217, 217)},
		{"MIN(A1:A3)", 3, 1, nums(1, 1, 1)}, {"MAX(A1:A3)", 3, 1, nums(3, 3, 3)}, {"COUNT(A1:A3)", 3, 1, nums(3, 3, 3)}, {"COUNT(A1:C3)", 1, 1, nums(4)}, {"AVERAGE(A1:A3)", 3, 1, nums(2, 2, 2)},
		{"AND(A1:A3)", 3, 1, all(3, yes)}, {"AND(B1:B2,A1:A3)", 3, 1, all(3, yes)}, {"OR(A1:A3)", 3, 1, all(3, yes)}, {"OR(B1:B1)", 1, 1, all(1, value)}, {"CONCAT(A1:A3)", 3, 1, all(3, text("123"))}, {"CONCAT(A1:C2)", 2, 3, all(6, text("1x2TRUE5"))},
		{"INDEX(A1:A3,2)", 3, 1, nums(2, 2, 2)}, {"INDEX(S2!A1:B3,A1:A3+0)", 3, 1, nums(10, 40, 20)}, {"INDEX(A1:C3,3)", 3, 3, nums(0, 0, 0, 0, 0, 0, 0, 0, 0)}, {"INDEX(A1:A3,4)", 1, 2, all(2, refE)},
		// INDEX's second, too
		{"INDEX(A1:A3,A1:A3)", 3, 1, all(3, value)}, {"INDEX(A1:A1,A1:A1)", 1, 1, all(1, value)}, {"INDEX(A1,1)", 1, 1, all(1, value)}, {"INDEX(A1:A3*1,1)", 3, 1, all(3, value)},
		// in Parens and by Names, too
		{"SUM((A1:A3))", 3, 1, nums(6, 6, 6)}, {"SUM(((A1:A3)),(1))", 2, 2, nums(7, 7, 7, 7)}, {"INDEX((A1:A3),2)", 3, 1, nums(2, 2, 2)}, {"SUM(N0')", 3, 1, nums(6, 6, 6)}, {"SUM((N4'))", 1, 3, nums(6, 6, 6)}, {"MAX(N0',N4')", 3, 1, nums(3, 3, 3)}, {"N3'", 3, 2, all(6, num(210))},
		// a sign's, another function's are not
		{"SUM(A1:A3*2)", 3, 1, nums(2, 4, 6)}, {"SUM(A1:A3,A1:A3*2)", 3, 1, nums(8, 10, 12)}, {"SUM(A1:A3*2)", 1, 3, all(3, value)}, {"SUM(-A1:A3)", 3, 1, nums(-1, -2, -3)}, {"COUNT(+C1:C3)", 3, 1, nums(1, 1, 1)}, {"SUM(IF(A1:A3>1,A1:A3))", 3, 1, nums(0, 2, 3)}, {"MAX(ABS(A1:A3),2)", 3, 1, nums(2, 2, 3)}, {"SUM((A1:A3+0))", 3, 1, nums(1, 2, 3)}, {"AND(NOT(A1:A3))", 3, 1, all(3, no)}, {"CONCAT(A1:A3&\"!\")", 3, 1, []V{text("1!"), text("2!"), text("3!")}}, {"SUM(N1')", 3, 1, nums(2, 4, 6)},
		{"SUM(A1:A3)-A1:A3", 3, 1, nums(5, 4, 3)}, {"A1:A3/SUM(A1:A3)*6", 3, 1, []V{part(1000000002, 9), part(1999999998, 9), num(3)}}, {"ABS(SUM(A1:A3))", 3, 1, nums(6, 6, 6)}, {"IF(A1:A3=MAX(A1:A3),\"most\",A1:A3)", 3, 1, []V{num(1), num(2), text("most")}},
	})
}

// TestP1501ArrayOneByOne goes through all functions that take Areas one by one.
func TestP1501ArrayOneByOne(t *testing.T) {
	for s, want := range map[string][]V{
		"ABS(3-S2!A1:A3/10)": nums(2, 1, 0), "SIGN(A1:A3-2)": nums(-1, 0, 1), "INT(A1:A3/2)": nums(0, 1, 1), "MOD(7,A1:A3)": nums(0, 1, 1), "MOD(A1:A3,2)": nums(1, 0, 1), "ROUND(1.256,A1:A3)": {part(13, 1), part(126, 2), part(1256, 3)},
		"ABS(A1:A3)": nums(1, 2, 3), "SIGN(A1:A3)": nums(1, 1, 1), "INT(A1:A3)": nums(1, 2, 3), "ROUND(A1:A3,0)": nums(1, 2, 3),
		"IF(B1:B3,A1:A3,0)": {value, num(2), na}, "IF(TRUE,A1:A3,0)": nums(1, 2, 3), "IF(FALSE,0,A1:A3)": nums(1, 2, 3), "IF(C1:C3,A1:A3)": {no, value, num(3)},
		"NOT(A1:A3)": all(3, no), "LEN(B1:B3)": {num(1), num(4), na}, "LEFT(\"abc\",A1:A3)": {text("a"), text("ab"), text("abc")}, "LEFT(B1:B3)": {text("x"), text("T"), na}, "RIGHT(\"abc\",A1:A3)": {text("c"), text("bc"), text("abc")}, "MID(\"abc\",A1:A3,1)": {text("a"), text("b"), text("c")},
		"UPPER(B1:B3)": {text("X"), text("TRUE"), na}, "LOWER(B1:B3)": {text("x"), text("true"), na}, "ISBLANK(C1:C3)": {yes, no, no}, "ISERROR(B1:B3)": {no, no, yes}, "IFERROR(B1:B3,A1:A3)": {text("x"), yes, num(3)}, "CHOOSE(A1:A3,A1:A3,B1:B3,C1:C3)": {num(1), yes, part(5, 1)},
		"EXACT(A1:A3,2)": {no, yes, no}, "REPT(\"x\",A1:A3)": {text("x"), text("xx"), text("xxx")}, "TYPE(B1:B3)": nums(2, 4, 16), "TYPE(C1:C3)": nums(1, 2, 1), "NA()": all(3, na),
		"ABS((A1:A3))": nums(1, 2, 3), "ABS(N0')": nums(1, 2, 3), "TYPE(((N4')))": nums(1, 1, 1),
	} {
		checkArrays(t, []grid{{s, 3, 1, want}})
	}
	checkArrays(t, []grid{
		// #VALUE! of an Area of another size is told as a value
		{"ISERROR(A1:A2)", 3, 1, all(3, yes)}, {"IFERROR(A1:A2,7)", 3, 1, nums(7, 7, 7)}, {"IF(TRUE,7,A1:A2)", 3, 1, nums(7, 7, 7)}, {"IF(A1:A3>1,A1:A2,7)", 3, 1, []V{num(7), value, value}}, {"TYPE(A1:A2)", 3, 1, nums(16, 16, 16)}, {"CHOOSE(A1:A3,A1:A2,1,2)", 3, 1, []V{value, num(1), num(2)}}, {"ISBLANK(S3!A1:A1)", 1, 2, all(2, no)},
		{"ISBLANK(S3!A1:B2)", 2, 2, all(4, yes)}, {"ABS(A1:A3,1)", 3, 1, all(3, value)},
	})
}

func TestP1501ArrayOfNames(t *testing.T) {
	checkArrays(t, []grid{
		{"N0'", 3, 1, nums(1, 2, 3)}, {"N0'", 1, 3, all(3, value)}, {"N4'", 3, 1, nums(1, 2, 3)}, {"(N4')", 3, 1, nums(1, 2, 3)}, {"N0'*N4'+1", 3, 1, nums(2, 5, 10)},
		{"N1'", 3, 1, nums(2, 4, 6)}, {"N1'", 2, 1, all(2, value)}, {"N1'+N0'", 3, 1, nums(3, 6, 9)},
		{"N2'", 2, 2, nums(0, 0, 0, 0)}, {"ISBLANK(N2')", 1, 2, all(2, yes)}, {"N3'", 1, 2, nums(210, 210)}, {"N7'", 1, 2, all(2, text("words"))}, {"N8'", 1, 2, all(2, nameE)}, {"IFERROR(N8',A1:A3)", 3, 1, nums(1, 2, 3)},
		{"N6'", 3, 1, all(3, refE)}, {"N6'", 1, 3, all(3, refE)},
	})
}

func TestP1501ArrayOfNoPlaces(t *testing.T) {
	checkArrays(t, []grid{
		{"S4!A1:A3", 3, 1, all(3, refE)}, {"S8!A1:A1", 1, 1, all(1, refE)}, {"SUM(S4!A1:A3)", 3, 1, all(3, refE)}, {"S4!A1", 2, 1, all(2, refE)}, {"ISERROR(S4!A1:A3)", 3, 1, all(3, yes)},
		// #REF! is told ahead of the size
		{"S4!A1:A3", 1, 2, all(2, refE)}, {"A1:A4097", 1, 2, all(2, refE)}, {"ABS(A1:IV65536)", 2, 2, all(4, refE)}, {"SUM(A1:A4097)", 1, 2, all(2, refE)}, {"COUNT(A1:A4097)", 1, 2, nums(0, 0)},
	})
	for _, sheet := range []int{-1, 3, math.MinInt, math.MaxInt} {
		checkArraysAt(t, book(), at(sheet, 4, 4), []grid{{"A1:A3", 3, 1, all(3, refE)}, {"A1", 2, 1, all(2, refE)}, {"S1!A1:A3", 3, 1, nums(1, 2, 3)}, {"7", 1, 2, nums(7, 7)}})
	}
}

func TestP1501ArrayOfOneValue(t *testing.T) {
	for _, s := range []string{"7", "\"a\"", "TRUE", "#N/A", "A1", "B1", "C1", "B3", "S2!A1", "(A2)", "A1+A2", "-A3", "SUM(1,2)", "IF(B2,A1,A2)", "NA()", "N2'", "N3'", "+C1", "ISBLANK(C1)", "1/0"} {
		want := eval.Eval(parse(s, here), book(), here)
		checkArrays(t, []grid{{s, 1, 1, all(1, want)}, {s, 3, 1, all(3, want)}, {s, 2, 3, all(6, want)}, {s, 64, 64, all(4096, want)}})
	}
}

// TestP1501ArrayHowMany: 1 at least of both, 4096 at most in all.
func TestP1501ArrayHowMany(t *testing.T) {
	e, v := parse("7", here), book()
	var sizes []int
	for _, n := range []int{0, 1, 2, 17, 63, 64, 65, 241, 2047, 2048, 2049, mostCells - 1, mostCells, mostCells + 1, 1 << 16, 1 << 31, 1 << 32, 1 << 33, 1<<62 + 1, math.MaxInt} {
		sizes = append(sizes, n, -n)
	}
	sizes = append(sizes, math.MinInt)
	for _, rows := range sizes {
		for _, cols := range sizes {
			want := 0
			if rows > 0 && cols > 0 && rows <= mostCells && cols <= mostCells/rows {
				want = rows * cols
			}
			if got := eval.Array(e, v, here, rows, cols); len(got) != want || slices.ContainsFunc(got, func(v V) bool { return v != num(7) }) {
				t.Errorf("P1501: %d by %d: %d cells", rows, cols, len(got))
			}
		}
	}
}

// TestP1501ArrayOfMost holds each cell of the greatest Arrays to its own.
func TestP1501ArrayOfMost(t *testing.T) {
	for _, size := range [][2]int{{64, 64}, {mostCells, 1}, {16, 256}, {32, 128}} {
		rows, cols := size[0], size[1]
		v := E{Sheets: 1}
		for row := range rows {
			for col := range cols {
				v.Slots = append(v.Slots, S{P: at(0, row+7, col), V: num(int64(row*1000 + col))})
			}
		}
		area := X{Kind: 3, A: ref.Area{A: ref.Ref{Row: 7}, B: ref.Ref{Row: rows + 6, Col: cols - 1}}}
		e := X{Kind: 8, Op: 1, Kids: []X{area, {Kind: 9, Op: 2, Kids: []X{area}}}}
		got := eval.Array(e, v, here, rows, cols)
		for n, x := range got {
			if want := num(int64(n/cols*1000 + n%cols + (rows-1)*1000 + cols - 1)); x != want {
				t.Fatalf("P1501: %d by %d: cell %d: %s, want %s", rows, cols, n, show(x), show(want))
			}
		}
		if len(got) != mostCells {
			t.Errorf("P1501: %d by %d: %d cells", rows, cols, len(got))
		}
	}
	// more columns than a sheet has: no Area is so wide
	if got := eval.Array(parse("A1:IV16", here), book(), here, 1, mostCells); !slices.Equal(got, all(mostCells, value)) {
		t.Errorf("P1501: 1 by 4096: %d cells, first %s", len(got), showList(got[:1]))
	}
}

// TestP1501ArrayOfMuch: a long formula of wide Areas ends.
func TestP1501ArrayOfMuch(t *testing.T) {
	v := E{Sheets: 1}
	for n := range mostCells {
		v.Slots = append(v.Slots, S{P: at(0, n/64, n%64), V: num(int64(n))})
	}
	v.Names = []X{parse("A1:BL64*2", here), parse("SUM("+strings.Repeat("A1:BL64,", 29)+"1)", here)}
	e := X{Kind: 9}
	for range 30 {
		e.Kids = append(e.Kids, parse("SUM(A1:BL64*1,N0',N1'"+strings.Repeat(",A1:BL64+0", 9)+")", here))
	}
	if expr.Count(e) > longest || env.Check(v) != 0 {
		t.Fatal("too much")
	}
	got := eval.Array(e, v, here, 64, 64)
	sum := int64(mostCells * (mostCells - 1) / 2)
	for n, x := range got {
		if want := num(30 * (12*int64(n) + 29*sum + 1)); x != want {
			t.Fatalf("P1501: cell %d: %s, want %s", n, show(x), show(want))
		}
	}
}
