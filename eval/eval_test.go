package eval_test

import (
	"math"
	"strconv"
	"strings"
	"testing"

	"cashbook/api"
	"cashbook/dec"
	"cashbook/env"
	"cashbook/eval"
	"cashbook/expr"
	"cashbook/ftext"
	"cashbook/ref"
	"cashbook/val"
)

type (
	E = env.Env
	P = env.Place
	S = env.Slot
	V = val.Val
	X = expr.Expr
)

// The bounds of what is promised, in digits.
const (
	mostCells = 4096
	mostRows  = 65536
	mostCols  = 256
	mostNames = 1024
	deepest   = 16
	longest   = 1024
)

var (
	blank = V{}
	div0  = fault(7)
	value = fault(15)
	refE  = fault(23)
	nameE = fault(29)
	numE  = fault(36)
	na    = fault(42)
	yes   = truth(true)
	no    = truth(false)
)

func num(m int64) V { return V{Kind: 1, N: dec.Dec{M: m}} }

func part(m int64, s int) V { return V{Kind: 1, N: dec.Dec{M: m, S: s}} }

func text(s string) V { return V{Kind: 2, S: s} }

func truth(b bool) V { return V{Kind: 3, B: b} }

func fault(e int) V { return V{Kind: 4, E: e} }

func at(sheet, row, col int) P { return P{Sheet: sheet, At: ref.Cell{Row: row, Col: col}} }

// place tells the cell that is called so, on a sheet.
func place(sheet int, name string) P {
	c, wrong := ref.Parse(name)
	if wrong != api.OK {
		panic(name)
	}
	return P{Sheet: sheet, At: c}
}

// parse tells the formula that is told so at p.
func parse(s string, p P) X {
	e, n, wrong := ftext.Parse(s, p.At)
	if wrong != api.OK {
		panic(s + " at " + strconv.Itoa(n) + ": " + wrong.Error())
	}
	return e
}

// filled tells v with values from a cell on, so many a row.
func filled(v E, from P, cols int, l ...V) E {
	for n, x := range l {
		v = env.Put(v, at(from.Sheet, from.At.Row+n/cols, from.At.Col+n%cols), x)
	}
	return v
}

// here is where the formulas of the tables stand, but where they say otherwise.
var here = P{At: ref.Cell{Row: 4, Col: 4}} // E5 of the first sheet

// book tells the Env of the tables: three sheets, the last one empty.
//
//	S1: 1  x     .     S2: 10 40
//	    2  TRUE  5         20 50
//	    3  #N/A  0.5       30 60
func book() E {
	v := E{Sheets: 3}
	v = filled(v, place(0, "A1"), 3,
		num(1), text("x"), blank,
		num(2), yes, text("5"),
		num(3), na, part(5, 1))
	v = filled(v, place(1, "A1"), 2, num(10), num(40), num(20), num(50), num(30), num(60))
	v = filled(v, place(0, "IV65536"), 1, num(99))
	for _, s := range []string{
		"$A$1:$A$3",         // N0'
		"$A$1:$A$3*2",       // N1'
		"$C$1",              // N2': nothing there
		"SUM(S2!$A$1:$B$3)", // N3'
		"($A$1:$A$3)",       // N4'
		"F5",                // N5': the cell to the right
		"S8!$A$1:$A$3",      // N6'
		"\"words\"",         // N7'
	} {
		v.Names = append(v.Names, parse(s, here))
	}
	if wrong := env.Check(v); wrong != api.OK {
		panic(wrong.Error())
	}
	return v
}

// show tells v such that two that differ are told otherwise, but for long texts.
func show(v V) string {
	s := v.S
	if len(s) > 40 {
		s = s[:40] + ".." + strconv.Itoa(len(v.S))
	}
	out := strconv.Itoa(v.Kind) + "|" + strconv.FormatInt(v.N.M, 10) + "e" + strconv.Itoa(v.N.S) + "|" + strconv.Quote(s) + "|" + strconv.FormatBool(v.B) + "|" + strconv.Itoa(v.E)
	if val.Check(v) == api.OK && v.Kind != val.Str {
		out = val.Text(v) + " (" + out + ")"
	}
	return out
}

func showList(l []V) string {
	var out []string
	for _, v := range l {
		out = append(out, show(v))
	}
	return "[" + strings.Join(out, ", ") + "]"
}

// row is a formula in words and what Eval is to tell of it.
type row struct {
	s    string
	want V
}

// checkAt holds Eval to rows, formulas that are seen from p and stand there.
func checkAt(t *testing.T, v E, p P, rows []row) {
	t.Helper()
	for _, r := range rows {
		if got := eval.Eval(parse(r.s, p), v, p); got != r.want {
			t.Errorf("P1501: %s: %s, want %s", r.s, show(got), show(r.want))
		}
	}
}

func check(t *testing.T, rows []row) {
	t.Helper()
	checkAt(t, book(), here, rows)
}

func TestP1501Const(t *testing.T) {
	for _, v := range []V{num(0), num(7), part(-15, 1), num(math.MaxInt64), num(math.MinInt64), text(""), text("a"), text("€\U0001F600"), yes, no, fault(0), div0, value, refE, nameE, numE, na} {
		e := X{Kind: 1, V: v}
		for _, p := range []P{here, at(2, 9, 9), at(-1, -1, -1), at(math.MaxInt, math.MinInt, math.MaxInt)} {
			if got := eval.Eval(e, book(), p); got != v {
				t.Errorf("P1501: Const %s: %s", show(v), show(got))
			}
		}
		if got := eval.Eval(X{Kind: 10, Kids: []X{e}}, book(), here); got != v {
			t.Errorf("P1501: Paren of Const %s: %s", show(v), show(got))
		}
	}
}

func TestP1501Cell(t *testing.T) {
	check(t, []row{
		{"A1", num(1)}, {"$A$2", num(2)}, {"B1", text("x")}, {"B2", yes}, {"B3", na}, {"C2", text("5")}, {"$C3", part(5, 1)},
		{"IV65536", num(99)}, {"D4", num(0)}, {"C1", num(0)},
	})
	// the same on another sheet
	checkAt(t, book(), at(1, 4, 4), []row{{"A1", num(10)}, {"$B$3", num(60)}, {"C1", num(0)}, {"B4", num(0)}, {"IV65536", num(0)}})
	checkAt(t, book(), at(2, 4, 4), []row{{"A1", num(0)}})
	for _, sheet := range []int{-1, 3, 8, math.MinInt, math.MaxInt} {
		checkAt(t, book(), at(sheet, 4, 4), []row{{"A1", refE}, {"C1", refE}, {"S1!A1", num(1)}, {"1", num(1)}})
	}
}

// TestP1501CellFromBase holds Cells to the cell that they are seen from, round at
// the edges.
func TestP1501CellFromBase(t *testing.T) {
	r := func(row, col int, relRow, relCol bool) X {
		return X{Kind: 2, A: ref.Area{A: ref.Ref{Row: row, Col: col, RelRow: relRow, RelCol: relCol}}}
	}
	for _, c := range []struct {
		e    X
		p    P
		want V
	}{
		{r(0, 0, true, true), at(0, 0, 0), num(1)},
		{r(0, 0, true, true), at(0, 2, 0), num(3)},
		{r(0, 0, false, false), at(0, 2, 0), num(1)},
		{r(1, 0, true, true), at(0, 1, 0), num(3)},
		{r(1, 0, true, false), at(0, 1, 1), num(3)},
		{r(1, 1, false, true), at(0, 60000, 255), num(2)},
		{r(mostRows-1, mostCols-1, true, true), at(0, 1, 1), num(1)},
		{r(mostRows-1, mostCols-1, true, true), at(0, 0, 0), num(99)},
		{r(2, 1, true, true), at(0, mostRows-1, mostCols-1), num(2)},
		{r(2, 1, true, true), at(1, mostRows-1, mostCols-1), num(20)},
		// where there is no such base it goes round likewise
		{r(0, 0, true, true), at(0, mostRows+1, mostCols), num(2)},
		{r(0, 0, true, true), at(0, -1, -1), num(99)},
		{r(0, 0, true, true), at(0, 2-mostRows*7, -mostCols*7), num(3)},
		{r(1, 0, false, false), at(0, math.MinInt, math.MaxInt), num(2)},
	} {
		if got := eval.Eval(c.e, book(), c.p); got != c.want {
			t.Errorf("P1501: %v at %v: %s, want %s", c.e.A.A, c.p, show(got), show(c.want))
		}
	}
}

func TestP1501Sheet(t *testing.T) {
	check(t, []row{
		{"S2!A1", num(10)}, {"S2!$B$3", num(60)}, {"S1!A1", num(1)}, {"S3!A1", num(0)}, {"S4!A1", refE}, {"S8!A1", refE}, {"S2!C1", num(0)},
		{"S2!A1+A1", num(11)}, {"ISBLANK(S3!A1)", yes}, {"ISERROR(S4!A1)", yes},
	})
	checkAt(t, book(), at(1, 4, 4), []row{{"S1!A1", num(1)}, {"S2!A1", num(10)}})
	checkAt(t, book(), at(7, 4, 4), []row{{"S1!A1", num(1)}, {"S8!A1", refE}})
	one := filled(E{Sheets: 1}, place(0, "A1"), 1, num(1))
	checkAt(t, one, here, []row{{"S1!A1", num(1)}, {"S2!A1", refE}})
	eight := filled(E{Sheets: 8}, place(7, "A1"), 1, num(8))
	checkAt(t, eight, here, []row{{"S8!A1", num(8)}, {"S7!A1", num(0)}})
	// seen from the cell, on the other sheet
	e := X{Kind: 4, Sheet: 1, A: ref.Area{A: ref.Ref{Row: mostRows - 1, Col: 1, RelRow: true, RelCol: true}}}
	if got := eval.Eval(e, book(), at(0, 3, 0)); got != num(60) {
		t.Errorf("P1501: S2!B3 from A4: %s", show(got))
	}
}

func TestP1501Area(t *testing.T) {
	check(t, []row{
		{"SUM(A1:A3)", num(6)}, {"SUM($A$1:A3)", num(6)}, {"SUM(A3:A1)", num(6)}, {"SUM(A1:A1)", num(1)},
		{"SUM(S2!A1:B3)", num(210)}, {"SUM(S1!A1:A3,S2!A1:A3)", num(66)}, {"SUM(S3!A1:C3)", num(0)},
		// row by row
		{"CONCAT(A1:C2)", text("1x2TRUE5")}, {"CONCAT(C2:A1)", text("1x2TRUE5")}, {"CONCAT(A2:C1)", text("1x2TRUE5")},
		{"CONCAT(S2!A1:B3)", text("104020503060")},
		{"INDEX(S2!A1:B3,1)", num(10)}, {"INDEX(S2!A1:B3,2)", num(40)}, {"INDEX(S2!A1:B3,3)", num(20)}, {"INDEX(S2!A1:B3,6)", num(60)}, {"INDEX(S2!A1:B3,7)", refE},
		{"INDEX(A1:C3,3)", num(0)}, {"ISBLANK(INDEX(A1:C3,3))", yes},
		// as an Area, not as so many values
		{"COUNT(C1:C3)", num(1)}, {"COUNT(C1,C2,C3)", num(3)}, {"SUM(B2:B2)", num(0)}, {"SUM(B2)", num(1)}, {"SUM(B1:B3)", na}, {"AND(C1:C1)", value}, {"AND(C1)", no},
		{"ABS(A1:A3)", value}, {"ABS(A1:A1)", value}, {"ISERROR(A1:A3)", value}, {"ISERROR(B3:B3)", value}, {"TYPE(A1:A1)", value},
		{"IF(TRUE,A1:A3)", value}, {"IF(FALSE,A1:A3,7)", num(7)}, {"IF(A1:A1,7,8)", value}, {"IFERROR(A1:A3,7)", value}, {"IFERROR(#N/A,A1:A3)", value}, {"IFERROR(7,A1:A3)", num(7)}, {"CHOOSE(2,A1:A3,7)", num(7)},
		{"INDEX(A1,1)", value},
	})
	checkAt(t, book(), at(1, 4, 4), []row{{"SUM(A1:B3)", num(210)}, {"SUM(S1!A1:A3)", num(6)}})
}

func TestP1501AreaIsWhole(t *testing.T) {
	check(t, []row{
		{"A1:A3", value}, {"A1:A1", value}, {"B3:B3", value}, {"C1:C1", value}, {"S2!A1:B3", value}, {"S3!A1:A1", value}, {"(A1:A3)", value}, {"((S2!A1:A1))", value}, {"N0'", value}, {"(N4')", value},
	})
}

func TestP1501AreaOfNoPlaces(t *testing.T) {
	check(t, []row{
		// 4096 cells are an Area
		{"SUM(A1:A4096)", num(6)}, {"SUM(A1:BL64)", na}, {"SUM(S2!A1:IV16)", num(210)}, {"A1:A4096", value}, {"COUNT(IV65536:IV61441)", num(1)},
		// more are none
		{"SUM(A1:A4097)", refE}, {"SUM(A4097:A1)", refE}, {"SUM(A1:BM64)", refE}, {"SUM(A1:BL65)", refE}, {"SUM(S2!A1:IV17)", refE}, {"A1:A4097", refE}, {"A1:IV65536", refE}, {"(A1:A4097)", refE}, {"S3!A1:A4097", refE},
		{"COUNT(A1:A4097)", num(0)}, {"ISERROR(A1:A4097)", yes}, {"IFERROR(A1:A4097,7)", num(7)}, {"-A1:A4097", refE}, {"A1:A4097+#N/A", refE}, {"#N/A+A1:A4097", na}, {"IF(TRUE,A1:A4097)", refE}, {"INDEX(A1:A4097,1)", value},
		{"SUM(#N/A,A1:A4097)", na}, {"SUM(A1:A4097,#N/A)", refE},
		// no such sheet
		{"S4!A1:A3", refE}, {"S8!A1:A1", refE}, {"SUM(S4!A1:A3)", refE}, {"COUNT(S4!A1:A3)", num(0)}, {"ISERROR(S4!A1:A3)", yes}, {"S4!A1:A3&1", refE}, {"S4!A1:A4097", refE}, {"INDEX(S4!A1:A3,1)", value}, {"SUM(A1:A3,S4!A1:A3)", refE}, {"N6'", refE}, {"SUM(N6')", refE},
	})
	for _, sheet := range []int{-1, 3, math.MinInt, math.MaxInt} {
		checkAt(t, book(), at(sheet, 4, 4), []row{{"SUM(A1:A3)", refE}, {"A1:A3", refE}, {"COUNT(A1:A3)", num(0)}, {"SUM(S1!A1:A3)", num(6)}})
	}
}

// TestP1501AreaFromBase holds Areas to the cell that they are seen from: what
// goes round at an edge has all between its two cells.
func TestP1501AreaFromBase(t *testing.T) {
	rel := func(row, col int) ref.Ref { return ref.Ref{Row: row, Col: col, RelRow: true, RelCol: true} }
	sum := func(a, b ref.Ref) X {
		return X{Kind: 9, Kids: []X{{Kind: 3, A: ref.Area{A: a, B: b}}}}
	}
	for _, c := range []struct {
		e    X
		p    P
		want V
	}{
		{sum(rel(0, 0), rel(2, 0)), at(0, 0, 0), num(6)},
		{sum(rel(0, 0), rel(2, 0)), at(0, 1, 0), num(5)},
		{sum(rel(0, 0), rel(2, 0)), at(1, 1, 0), num(50)},
		{sum(rel(0, 0), rel(1, 1)), at(1, 1, 0), num(160)},
		{sum(ref.Ref{}, rel(0, 0)), at(0, 1, 0), num(3)},
		{sum(rel(mostRows-1, 0), rel(1, 0)), at(0, 1, 0), num(6)},
		{sum(rel(mostRows-1, 0), rel(mostRows-3, 0)), at(0, 3, 0), num(6)},
		{sum(rel(mostRows-1, 0), rel(1, 0)), at(0, 0, 0), refE}, // from the first row to the last one
		{sum(rel(0, mostCols-1), rel(0, 0)), at(0, mostRows-1, 0), num(99)},
		{sum(rel(0, 0), rel(2, 0)), at(0, 1-mostRows, mostCols), num(5)},
	} {
		if got := eval.Eval(c.e, book(), c.p); got != c.want {
			t.Errorf("P1501: SUM of %v at %v: %s, want %s", c.e.Kids[0].A, c.p, show(got), show(c.want))
		}
	}
}

func TestP1501Name(t *testing.T) {
	check(t, []row{
		{"N7'", text("words")}, {"N3'", num(210)}, {"N3'/N3'", num(1)}, {"N3'+N7'", value}, {"LEN(N7')", num(5)},
		// an Area, too
		{"SUM(N0')", num(6)}, {"SUM(N4')", num(6)}, {"SUM(N0',N4',N0')", num(18)}, {"INDEX(N0',2)", num(2)}, {"COUNT(N0')", num(3)}, {"ABS(N0')", value}, {"N0'+1", value}, {"-N4'", value}, {"N0'+#N/A", value},
		{"N1'", value}, {"SUM(N1')", value},
		// a Blank, too
		{"N2'", num(0)}, {"ISBLANK(N2')", yes}, {"(N2')", num(0)}, {"ISBLANK((N2'))", yes}, {"N2'&N7'", text("words")},
		// none such
		{"N8'", nameE}, {"N1023'", nameE}, {"ISERROR(N8')", yes}, {"N8'+#N/A", nameE}, {"#N/A+N8'", na}, {"SUM(N0',N8')", nameE}, {"COUNT(N8')", num(0)}, {"IF(TRUE,1,N8')", num(1)},
	})
	// at at: on its sheet, from its cell
	v := env.Put(book(), place(0, "F5"), text("right"))
	v = env.Put(v, place(0, "B2"), text("there"))
	v = env.Put(v, place(1, "A1"), text("below"))
	checkAt(t, v, here, []row{{"N5'", text("right")}})
	checkAt(t, v, place(0, "A2"), []row{{"N5'", text("there")}, {"SUM(N0')", num(6)}})
	checkAt(t, v, place(1, "IV1"), []row{{"N5'", text("below")}, {"SUM(N0')", num(50)}})
	checkAt(t, v, at(3, 0, 0), []row{{"N5'", refE}, {"SUM(N0')", refE}, {"N3'", num(200)}})
	checkAt(t, E{Sheets: 1}, here, []row{{"N0'", nameE}})
	checkAt(t, E{Sheets: 1, Names: []X{{Kind: 1, V: yes}}}, here, []row{{"N0'", yes}, {"N1'", nameE}})
}

func TestP1501NamesToTheLast(t *testing.T) {
	v := E{Sheets: 1}
	for n := range mostNames {
		v.Names = append(v.Names, X{Kind: 1, V: num(int64(n))})
	}
	for n := range mostNames {
		if got := eval.Eval(X{Kind: 6, Op: n}, v, here); got != num(int64(n)) {
			t.Errorf("P1501: N%d': %s", n, show(got))
		}
	}
	v.Names = v.Names[:mostNames-1]
	if got := eval.Eval(X{Kind: 6, Op: mostNames - 1}, v, here); got != nameE {
		t.Errorf("P1501: N1023' of 1023 Names: %s", show(got))
	}
}

func TestP1501Signs(t *testing.T) {
	check(t, []row{
		{"-A2", num(-2)}, {"+B1", text("x")}, {"A2%", part(2, 2)}, {"-B1", value}, {"-B3", na}, {"-C1", num(0)}, {"+C1", num(0)}, {"ISBLANK(+C1)", yes}, {"ISBLANK(-C1)", no},
		{"A1+A2", num(3)}, {"A1-A2", num(-1)}, {"A2*A3", num(6)}, {"A3/A2", part(15, 1)}, {"A2^A3", num(8)}, {"A3^A2", num(9)}, {"A1&B1", text("1x")}, {"B1&A1", text("x1")},
		{"A1=A2", no}, {"A1<>A2", yes}, {"A1<A2", yes}, {"A1<=A2", yes}, {"A1>A2", no}, {"A1>=A2", no}, {"C1=0", yes}, {"C1=\"\"", yes},
		{"A1/C1", div0}, {"B3+#REF!", na}, {"#REF!+B3", refE}, {"A1+C2", num(6)},
		{"A1+A2*A3", num(7)}, {"(A1+A2)*A3", num(9)}, {"A3-A2-A1", num(0)}, {"A3-(A2-A1)", num(2)}, {"-A2^A2", num(4)}, {"A3-A2&A1", text("11")},
	})
}

// TestP1501AreaAsOperand: #VALUE!, ahead of an Err beside it.
func TestP1501AreaAsOperand(t *testing.T) {
	for _, area := range []string{"A1:A3", "A1:A1", "B3:B3", "S2!A1:B3", "S3!C3:C3", "(A1:A3)", "((A1:A1))", "N0'", "(N4')"} {
		for _, s := range []string{"-", "+"} {
			check(t, []row{{s + area, value}})
		}
		check(t, []row{{area + "%", value}})
		for _, s := range []string{"+", "-", "*", "/", "^", "&", "=", "<>", "<", "<=", ">", ">="} {
			check(t, []row{
				{area + s + "1", value}, {"1" + s + area, value}, {area + s + area, value}, {area + s + "C1", value},
				{area + s + "#N/A", value}, {"#N/A" + s + area, value}, {"B3" + s + area, value}, {"S4!A1:A3" + s + area, value}, {"N8'" + s + area, value},
				{"IFERROR(#N/A" + s + area + ",7)", num(7)},
			})
		}
	}
}

func TestP1501Calls(t *testing.T) {
	check(t, []row{
		{"SUM()", num(0)}, {"NA()", na}, {"SUM(A1,A2,A3)", num(6)}, {"MIN(A1:A3)", num(1)}, {"MAX(A1:A3,7)", num(7)}, {"AVERAGE(A1:A3)", num(2)}, {"ABS(-A2)", num(2)}, {"MOD(A3,A2)", num(1)}, {"ROUND(C3,0)", num(1)},
		{"IF(B2,A1,A2)", num(1)}, {"IF(C1,A1,A2)", num(2)}, {"AND(A1:B2)", yes}, {"OR(NOT(B2),C1)", no}, {"LEN(B1)", num(1)}, {"MID(\"abc\",A2,A1)", text("b")}, {"REPT(B1,A3)", text("xxx")}, {"CHOOSE(A2,A1,B1,A3)", text("x")},
		{"ISBLANK(C1)", yes}, {"ISBLANK(A1)", no}, {"ISERROR(B3)", yes}, {"IFERROR(B3,A2)", num(2)}, {"EXACT(B1,\"x\")", yes}, {"TYPE(C1)", num(1)}, {"TYPE(B3)", num(16)}, {"COUNT(C1)", num(1)},
		{"SUM(ABS(-3),SUM(1,SUM(A1:A3,1)),A3)", num(14)}, {"IF(SUM(A1:A3)>5,MAX(A1:A3)&\"!\",0)", text("3!")},
		{"ABS()", value}, {"ABS(1,2)", value}, {"ABS(#N/A,1)", value},
		{"CONCAT(1,2,3,4,5,6,7,8,9,0,1,2,3,4,5,6,7,8,9,0,1,2,3,4,5,6,7,8,9,0)", text("123456789012345678901234567890")},
	})
}

func TestP1501Paren(t *testing.T) {
	check(t, []row{
		{"(A1)", num(1)}, {"((B1))", text("x")}, {"(B3)", na}, {"(C1)", num(0)}, {"ISBLANK((C1))", yes}, {"COUNT((C1))", num(1)}, {"COUNT((C1:C1))", num(0)},
		{"SUM((A1:A3))", num(6)}, {"SUM((((S2!A1:B3))),(1))", num(211)}, {"INDEX((S2!A1:B3),2)", num(40)}, {"SUM((N0'))", num(6)}, {"SUM(((N4')))", num(6)}, {"ABS((A1:A3))", value}, {"IF(TRUE,(A1:A3))", value},
	})
}

// TestP1501BlankIsNought: of the whole alone.
func TestP1501BlankIsNought(t *testing.T) {
	check(t, []row{
		{"C1", num(0)}, {"(C1)", num(0)}, {"+C1", num(0)}, {"S3!A1", num(0)}, {"IF(TRUE,C1)", num(0)}, {"CHOOSE(1,C1,2)", num(0)}, {"IFERROR(C1,1)", num(0)}, {"INDEX(C1:C3,1)", num(0)}, {"N2'", num(0)},
		{"C1&C1", text("")}, {"TYPE(C1)", num(1)}, {"ISBLANK(IF(TRUE,C1))", yes}, {"IF(ISBLANK(C1),C1&\"none\",C1)", text("none")}, {"EXACT(C1,\"\")", yes}, {"EXACT(C1,0)", no},
	})
}

// nested tells e in so many Parens that it is so deep.
func nested(e X, depth int) X {
	for range depth - 1 {
		e = X{Kind: 10, Kids: []X{e}}
	}
	return e
}

// TestP1501Sizes holds Eval to the deepest and the longest formulas that there
// may be.
func TestP1501Sizes(t *testing.T) {
	v := book()
	if got := eval.Eval(nested(parse("A3", here), deepest), v, here); got != num(3) {
		t.Errorf("P1501: 16 deep: %s", show(got))
	}
	v.Names[0] = nested(parse("SUM(A1:A3)", here), deepest-1)
	if got := eval.Eval(nested(X{Kind: 6}, deepest), v, here); got != num(6) {
		t.Errorf("P1501: a Name that is 16 deep, 16 deep: %s", show(got))
	}
	// 931 in all, and then as many Parens as may be
	e := X{Kind: 9}
	for n := range 30 {
		kid := X{Kind: 9}
		for len(kid.Kids) < 30 {
			kid.Kids = append(kid.Kids, X{Kind: 2, A: ref.Area{A: ref.Ref{Row: n % 3}}})
		}
		e.Kids = append(e.Kids, kid)
	}
	for count := expr.Count(e); count < longest; count++ {
		e.Kids[count%30].Kids[count/30%30] = X{Kind: 10, Kids: []X{e.Kids[count%30].Kids[count/30%30]}}
	}
	if expr.Count(e) != longest || expr.Check(e) != api.OK {
		t.Fatal("no formula of 1024")
	}
	if got := eval.Eval(e, v, here); got != num(30*10*(1+2+3)) {
		t.Errorf("P1501: 1024 in all: %s", show(got))
	}
}
