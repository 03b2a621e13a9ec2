package ftext_test

import (
	"math"
	"slices"
	"strings"
	"testing"

	"cashbook/api"
	"cashbook/dec"
	"cashbook/expr"
	"cashbook/ftext"
	"cashbook/ref"
	"cashbook/val"
)

type (
	E = expr.Expr
	R = ref.Ref
	C = ref.Cell
)

func constant(v val.Val) E { return E{Kind: 1, V: v} }

func num(m int64, s int) E { return constant(val.Val{Kind: 1, N: dec.Dec{M: m, S: s}}) }

func n(m int64) E { return num(m, 0) }

func text(s string) E { return constant(val.Val{Kind: 2, S: s}) }

func truth(b bool) E { return constant(val.Val{Kind: 3, B: b}) }

func fault(n int) E { return constant(val.Val{Kind: 4, E: n}) }

func fixed(row, col int) R { return R{Row: row, Col: col} }

func rel(row, col int) R { return R{Row: row, Col: col, RelRow: true, RelCol: true} }

func cell(r R) E { return E{Kind: 2, A: ref.Area{A: r}} }

func area(a, b R) E { return E{Kind: 3, A: ref.Area{A: a, B: b}} }

func onSheet(sheet int, r R) E { return E{Kind: 4, A: ref.Area{A: r}, Sheet: sheet} }

func areaOnSheet(sheet int, a, b R) E { return E{Kind: 5, A: ref.Area{A: a, B: b}, Sheet: sheet} }

func name(n int) E { return E{Kind: 6, Op: n} }

func unary(op int, kids ...E) E { return E{Kind: 7, Op: op, Kids: kids} }

func bin(op int, kids ...E) E { return E{Kind: 8, Op: op, Kids: kids} }

func call(op int, kids ...E) E { return E{Kind: 9, Op: op, Kids: kids} }

func paren(kids ...E) E { return E{Kind: 10, Kids: kids} }

// nest tells e within so many Parens.
func nest(n int, e E) E {
	for range n {
		e = paren(e)
	}
	return e
}

// brief tells the beginning of what is long.
func brief(s string) string {
	if len(s) > 80 {
		return s[:80] + ".."
	}
	return s
}

// base is the cell that the pairs are seen from.
var base = C{Row: 4, Col: 2}

// pairs are formulas, and the words that each is told in, of which Parse tells
// just that formula.
var pairs = []struct {
	e E
	s string
}{
	{n(0), "0"},
	{n(7), "7"},
	{num(15, 1), "1.5"},
	{num(1, 9), "0.000000001"},
	{n(math.MaxInt64), "9223372036854775807"},
	{num(math.MaxInt64, 9), "9223372036.854775807"},
	{text(""), `""`},
	{text("a b"), `"a b"`},
	{text(`"`), `""""`},
	{text(`a"b""`), `"a""b"""""`},
	{text("€𝄞\n#(A1"), "\"€𝄞\n#(A1\""},
	{text(strings.Repeat("a", 1000)), `"` + strings.Repeat("a", 1000) + `"`},
	{text(strings.Repeat(`"`, 1000)), strings.Repeat(`"`, 2002)},
	{text(strings.Repeat("𝄞", 500)), `"` + strings.Repeat("𝄞", 500) + `"`},
	{truth(true), "TRUE"},
	{truth(false), "FALSE"},
	{fault(0x00), "#NULL!"},
	{fault(0x07), "#DIV/0!"},
	{fault(0x0F), "#VALUE!"},
	{fault(0x17), "#REF!"},
	{fault(0x1D), "#NAME?"},
	{fault(0x24), "#NUM!"},
	{fault(0x2A), "#N/A"},
	{cell(fixed(0, 0)), "$A$1"},
	{cell(fixed(65535, 255)), "$IV$65536"},
	{cell(rel(0, 0)), "C5"},
	{cell(rel(1, 2)), "E6"},
	{cell(R{Row: 1, Col: 30, RelRow: true}), "$AE6"},
	{cell(R{Row: 1, Col: 30, RelCol: true}), "AG$2"},
	{cell(rel(65535, 255)), "B4"},
	{cell(rel(65532, 254)), "A1"},
	{cell(rel(65531, 253)), "IV65536"},
	{area(fixed(0, 0), fixed(9, 1)), "$A$1:$B$10"},
	{area(fixed(9, 1), rel(0, 0)), "$B$10:C5"},
	{area(R{RelRow: true}, R{RelCol: true}), "$A5:C$1"},
	{onSheet(0, fixed(0, 0)), "S1!$A$1"},
	{onSheet(7, rel(1, 0)), "S8!C6"},
	{areaOnSheet(2, fixed(0, 0), rel(0, 1)), "S3!$A$1:D5"},
	{name(0), "N0'"},
	{name(1023), "N1023'"},
	{unary(1, n(5)), "-5"},
	{unary(2, n(5)), "+5"},
	{unary(3, n(5)), "5%"},
	{unary(1, cell(rel(0, 0))), "-C5"},
	{unary(1, n(0)), "-0"},
	{bin(1, n(1), n(2)), "1+2"},
	{bin(2, n(1), n(2)), "1-2"},
	{bin(3, n(1), n(2)), "1*2"},
	{bin(4, n(1), n(2)), "1/2"},
	{bin(5, n(1), n(2)), "1^2"},
	{bin(6, n(1), n(2)), "1&2"},
	{bin(7, n(1), n(2)), "1=2"},
	{bin(8, n(1), n(2)), "1<>2"},
	{bin(9, n(1), n(2)), "1<2"},
	{bin(10, n(1), n(2)), "1<=2"},
	{bin(11, n(1), n(2)), "1>2"},
	{bin(12, n(1), n(2)), "1>=2"},
	{bin(4, fault(0x2A), fault(0x2A)), "#N/A/#N/A"},
	{bin(6, text("a"), text("b")), `"a"&"b"`},
	{call(28), "NA()"},
	{call(0, n(1)), "SUM(1)"},
	{call(0, n(1), area(rel(0, 0), rel(0, 1)), text(",")), `SUM(1,C5:D5,",")`},
	{call(10, truth(true), n(1), call(0)), "IF(TRUE,1,SUM())"},
	{call(1, bin(7, n(1), n(2)), paren(n(3))), "MIN(1=2,(3))"},
	{call(0, slices.Repeat([]E{n(1)}, 30)...), "SUM(1" + strings.Repeat(",1", 29) + ")"},
	{paren(n(1)), "(1)"},
	{paren(paren(bin(7, n(1), n(2)))), "((1=2))"},
	{nest(15, n(1)), strings.Repeat("(", 15) + "1" + strings.Repeat(")", 15)},
	// the left one of two alike first
	{bin(2, bin(1, n(1), n(2)), n(3)), "1+2-3"},
	{bin(4, bin(3, n(1), n(2)), n(3)), "1*2/3"},
	{bin(6, bin(6, n(1), n(2)), n(3)), "1&2&3"},
	{bin(12, bin(7, n(1), n(2)), n(3)), "1=2>=3"},
	// what binds more needs no brackets
	{bin(7, n(1), bin(6, n(2), n(3))), "1=2&3"},
	{bin(7, bin(6, n(1), n(2)), n(3)), "1&2=3"},
	{bin(6, n(1), bin(1, n(2), n(3))), "1&2+3"},
	{bin(6, bin(2, n(1), n(2)), n(3)), "1-2&3"},
	{bin(1, n(1), bin(3, n(2), n(3))), "1+2*3"},
	{bin(2, bin(4, n(1), n(2)), n(3)), "1/2-3"},
	{bin(3, n(1), bin(5, n(2), n(3))), "1*2^3"},
	{bin(4, bin(5, n(1), n(2)), n(3)), "1^2/3"},
	{bin(5, unary(1, n(1)), unary(2, n(2))), "-1^+2"},
	{bin(1, unary(1, n(1)), unary(1, n(2))), "-1+-2"},
	{bin(2, n(1), unary(1, unary(1, n(2)))), "1---2"},
	{unary(1, unary(1, n(1))), "--1"},
	{unary(2, unary(1, cell(rel(0, 0)))), "+-C5"},
	{unary(1, unary(3, n(1))), "-1%"},
	{unary(3, unary(3, n(1))), "1%%"},
	{bin(5, unary(3, n(1)), unary(3, n(2))), "1%^2%"},
	{bin(1, unary(3, n(1)), n(2)), "1%+2"},
	// Parens are told where they stand alone, and once
	{bin(3, paren(bin(1, n(1), n(2))), n(3)), "(1+2)*3"},
	{bin(5, paren(n(1)), paren(bin(5, n(2), n(3)))), "(1)^(2^3)"},
	{unary(1, paren(bin(1, n(1), n(2)))), "-(1+2)"},
	{unary(3, paren(n(1))), "(1)%"},
	{unary(1, paren(unary(1, n(1)))), "-(-1)"},
}

func TestP1301TextOfPairs(t *testing.T) {
	for _, c := range pairs {
		if s, wrong := ftext.Text(c.e, base); s != c.s || wrong != api.OK {
			t.Errorf("P1301: %s: %s, %v", brief(c.s), brief(s), wrong)
		}
	}
}

func TestP1301ParseOfPairs(t *testing.T) {
	for _, c := range pairs {
		if e, at, wrong := ftext.Parse(c.s, base); !expr.Same(e, c.e) || at != 0 || wrong != api.OK {
			t.Errorf("P1301: %s: %v, %d, %v", brief(c.s), e, at, wrong)
		}
	}
}

// bracketed are formulas with brackets in their words that are not in them.
var bracketed = []struct {
	e E
	s string
}{
	{bin(3, bin(1, n(1), n(2)), n(3)), "(1+2)*3"},
	{bin(3, n(1), bin(2, n(2), n(3))), "1*(2-3)"},
	{bin(5, bin(3, n(1), n(2)), n(3)), "(1*2)^3"},
	{bin(5, n(1), bin(4, n(2), n(3))), "1^(2/3)"},
	{bin(1, bin(6, n(1), n(2)), n(3)), "(1&2)+3"},
	{bin(2, n(1), bin(6, n(2), n(3))), "1-(2&3)"},
	{bin(6, bin(7, n(1), n(2)), n(3)), "(1=2)&3"},
	{bin(6, n(1), bin(12, n(2), n(3))), "1&(2>=3)"},
	// of two alike the right one
	{bin(1, n(1), bin(1, n(2), n(3))), "1+(2+3)"},
	{bin(1, n(1), bin(2, n(2), n(3))), "1+(2-3)"},
	{bin(3, n(1), bin(3, n(2), n(3))), "1*(2*3)"},
	{bin(6, n(1), bin(6, n(2), n(3))), "1&(2&3)"},
	{bin(7, n(1), bin(8, n(2), n(3))), "1=(2<>3)"},
	// ahead of ^ the left one, too
	{bin(5, bin(5, n(1), n(2)), n(3)), "(1^2)^3"},
	{bin(5, n(1), bin(5, n(2), n(3))), "1^(2^3)"},
	// behind a sign all that is none
	{unary(1, bin(5, n(1), n(2))), "-(1^2)"},
	{unary(2, bin(7, n(1), n(2))), "+(1=2)"},
	{unary(1, unary(1, bin(3, n(1), n(2)))), "--(1*2)"},
	// ahead of a percent
	{unary(3, unary(1, n(1))), "(-1)%"},
	{unary(3, unary(2, n(1))), "(+1)%"},
	{unary(3, bin(5, n(1), n(2))), "(1^2)%"},
	{unary(3, unary(3, bin(1, n(1), n(2)))), "(1+2)%%"},
	// a Num below 0 as minus ahead
	{n(-1), "-1"},
	{num(-15, 1), "-1.5"},
	{unary(3, n(-1)), "(-1)%"},
	{unary(1, n(-1)), "--1"},
	{unary(2, n(-1)), "+-1"},
	{bin(5, n(-1), n(-2)), "-1^-2"},
	{bin(2, n(-1), n(-2)), "-1--2"},
	{bin(7, n(-1), n(-2)), "-1=-2"},
	{call(0, n(-1), bin(1, n(-2), n(-3))), "SUM(-1,-2+-3)"},
	{paren(n(-1)), "(-1)"},
	{n(math.MinInt64), "-9223372036854775808"},
	{num(math.MinInt64, 9), "-9223372036.854775808"},
	// no more where a Paren is already
	{unary(3, paren(n(-1))), "(-1)%"},
	// once within another
	{bin(3, bin(1, bin(3, bin(1, n(1), n(2)), n(3)), n(4)), n(5)), "((1+2)*3+4)*5"},
}

func TestP1301TextBrackets(t *testing.T) {
	for _, c := range bracketed {
		if s, wrong := ftext.Text(c.e, base); s != c.s || wrong != api.OK {
			t.Errorf("P1301: %s: %s, %v", c.s, s, wrong)
		}
	}
}

// TestP1301TextOfAllTwo: each sign within each other one, at each place.
func TestP1301TextOfAllTwo(t *testing.T) {
	for _, outer := range signs() {
		for _, inner := range append(signs(), n(-7), num(-7, 1), n(7), paren(n(7)), call(28)) {
			for i := range outer.Kids {
				e := outer
				e.Kids = slices.Clone(outer.Kids)
				e.Kids[i] = inner
				want, _ := write(e, base)
				if s, wrong := ftext.Text(e, base); s != want || wrong != api.OK {
					t.Errorf("P1301: %s: %s, %v", want, s, wrong)
				}
			}
		}
	}
}

// signs tells one of each Unary and Bin.
func signs() []E {
	var out []E
	for op := 1; op <= 3; op++ {
		out = append(out, unary(op, n(1)))
	}
	for op := 1; op <= 12; op++ {
		out = append(out, bin(op, n(2), n(3)))
	}
	return out
}

func TestP1301TextOfPlaces(t *testing.T) {
	for _, c := range []struct {
		e    E
		base C
		s    string
	}{
		{cell(rel(0, 0)), C{}, "A1"},
		{cell(rel(0, 0)), C{Row: 65535, Col: 255}, "IV65536"},
		{cell(rel(1, 1)), C{Row: 65535, Col: 255}, "A1"},
		{cell(fixed(1, 1)), C{Row: 65535, Col: 255}, "$B$2"},
		{area(rel(65535, 0), rel(1, 0)), C{}, "A65536:A2"},
		{areaOnSheet(1, rel(0, 255), fixed(0, 0)), C{Row: 9, Col: 26}, "S2!Z10:$A$1"},
	} {
		if s, wrong := ftext.Text(c.e, c.base); s != c.s || wrong != api.OK {
			t.Errorf("P1301: %s: %s, %v", c.s, s, wrong)
		}
		if e, at, wrong := ftext.Parse(c.s, c.base); !expr.Same(e, c.e) || at != 0 || wrong != api.OK {
			t.Errorf("P1301: %s: %v, %d, %v", c.s, e, at, wrong)
		}
	}
}

// noBases are cells that there are not.
var noBases = []C{{Row: -1}, {Col: -1}, {Row: 65536}, {Col: 256}, {Row: math.MinInt, Col: math.MaxInt}}

func TestP1301TextWrong(t *testing.T) {
	for _, c := range []struct {
		e    E
		want api.Errno
	}{
		{E{}, api.ErrArg},
		{nest(16, n(1)), api.ErrDeep},
		{constant(val.Val{}), api.ErrArg},
		{num(10, 1), api.ErrArg},
		{text("\xff"), api.ErrForm},
		{text(strings.Repeat("a", 1001)), api.ErrLong},
		{cell(fixed(65536, 0)), api.ErrRange},
		{onSheet(8, fixed(0, 0)), api.ErrArg},
		{name(1024), api.ErrArg},
		{name(-1), api.ErrArg},
		{unary(4, n(1)), api.ErrArg},
		{unary(1), api.ErrArg},
		{bin(13, n(1), n(2)), api.ErrArg},
		{bin(0, n(1), n(2)), api.ErrArg},
		{bin(1, n(1)), api.ErrArg},
		{call(30), api.ErrArg},
		{call(0, slices.Repeat([]E{n(1)}, 31)...), api.ErrArg},
		{paren(), api.ErrArg},
		{call(0, slices.Repeat([]E{call(0, slices.Repeat([]E{unary(1, n(1))}, 30)...)}, 17)...), api.ErrLong},
	} {
		for _, from := range append(noBases, base) { // Check's ahead of the base's
			if s, wrong := ftext.Text(c.e, from); s != "" || wrong != c.want {
				t.Errorf("P1301: %v: %s, %v, not %v", c.e, brief(s), wrong, c.want)
			}
		}
	}
	for _, from := range noBases {
		if s, wrong := ftext.Text(n(1), from); s != "" || wrong != api.ErrRange {
			t.Errorf("P1301: %v: %s, %v", from, s, wrong)
		}
	}
}

func TestP1301ParseNoBase(t *testing.T) {
	for _, from := range noBases {
		for _, s := range []string{"", "1", "A1", " )", "05"} {
			if e, at, wrong := ftext.Parse(s, from); !expr.Same(e, E{}) || at != 0 || wrong != api.ErrRange {
				t.Errorf("P1301: %q, %v: %v, %d, %v", s, from, e, at, wrong)
			}
		}
	}
}

func TestP1301StripOf(t *testing.T) {
	for _, c := range []struct{ e, want E }{
		{n(1), n(1)},
		{paren(n(1)), n(1)},
		{nest(15, name(3)), name(3)},
		{unary(1, n(1)), n(-1)},
		{unary(1, num(15, 1)), num(-15, 1)},
		{unary(1, n(math.MaxInt64)), n(-math.MaxInt64)},
		{unary(1, n(0)), unary(1, n(0))},
		{unary(1, n(-1)), unary(1, n(-1))},
		{unary(1, n(math.MinInt64)), unary(1, n(math.MinInt64))},
		{unary(2, n(1)), unary(2, n(1))},
		{unary(3, n(1)), unary(3, n(1))},
		{unary(1, truth(true)), unary(1, truth(true))},
		{unary(1, text("1")), unary(1, text("1"))},
		{unary(1, fault(7)), unary(1, fault(7))},
		{unary(1, name(7)), unary(1, name(7))},
		{unary(1, cell(rel(1, 1))), unary(1, cell(rel(1, 1)))},
		{unary(1, paren(n(1))), n(-1)},
		{paren(unary(1, n(1))), n(-1)},
		{unary(1, paren(unary(1, n(1)))), unary(1, n(-1))},
		{unary(1, unary(1, n(1))), unary(1, n(-1))},
		{unary(1, unary(1, unary(1, n(1)))), unary(1, unary(1, n(-1)))},
		{unary(1, unary(2, n(1))), unary(1, unary(2, n(1)))},
		{unary(3, paren(unary(1, n(1)))), unary(3, n(-1))},
		{bin(2, paren(n(1)), unary(1, n(2))), bin(2, n(1), n(-2))},
		{call(10, paren(paren(n(1))), bin(5, unary(1, n(2)), paren(n(3)))), call(10, n(1), bin(5, n(-2), n(3)))},
		{call(0), call(0)},
		{areaOnSheet(3, rel(1, 2), fixed(3, 4)), areaOnSheet(3, rel(1, 2), fixed(3, 4))},
	} {
		if e := ftext.Strip(c.e); !expr.Same(e, c.want) {
			t.Errorf("P1301: %v: %v, not %v", c.e, e, c.want)
		}
	}
}
