package expr_test

import (
	"math"
	"math/rand"
	"slices"
	"strconv"
	"strings"
	"testing"

	"cashbook/api"
	"cashbook/dec"
	"cashbook/expr"
	"cashbook/ref"
	"cashbook/val"
)

type (
	E = expr.Expr
	V = val.Val
	R = ref.Ref
	A = ref.Area
)

// The bounds of what is promised, in digits.
const (
	deepest = 16
	longest = 1024
)

func num(m int64) V { return V{Kind: 1, N: dec.Dec{M: m}} }

func text(s string) V { return V{Kind: 2, S: s} }

func constant(v V) E { return E{Kind: 1, V: v} }

func one() E { return constant(num(1)) }

func at(row, col int) R { return R{Row: row, Col: col} }

func cell(r R) E { return E{Kind: 2, A: A{A: r}} }

func area(a, b R) E { return E{Kind: 3, A: A{A: a, B: b}} }

func onSheet(sheet int, r R) E { return E{Kind: 4, A: A{A: r}, Sheet: sheet} }

func areaOnSheet(sheet int, a, b R) E { return E{Kind: 5, A: A{A: a, B: b}, Sheet: sheet} }

func name(n int) E { return E{Kind: 6, Op: n} }

func unary(op int, kids ...E) E { return E{Kind: 7, Op: op, Kids: kids} }

func bin(op int, kids ...E) E { return E{Kind: 8, Op: op, Kids: kids} }

func call(op int, kids ...E) E { return E{Kind: 9, Op: op, Kids: kids} }

func paren(kids ...E) E { return E{Kind: 10, Kids: kids} }

// with tells e with other Kids.
func with(e E, kids ...E) E {
	e.Kids = kids
	return e
}

func times(n int, e E) []E { return slices.Repeat([]E{e}, n) }

// nest tells e within so many of what wrap tells.
func nest(n int, e E, wrap func(E) E) E {
	for range n {
		e = wrap(e)
	}
	return e
}

// wide tells a formula of just n in all, each of at most 30 Kids.
func wide(n int) E {
	if n == 1 {
		return one()
	}
	e := call(0)
	for kids := min(n-1, 30); kids > 0; kids-- {
		e.Kids = append(e.Kids, wide((n-1)/kids))
		n -= (n - 1) / kids
	}
	return e
}

// halved tells a formula of just n in all, each of at most two Kids.
func halved(n int) E {
	switch n {
	case 1:
		return one()
	case 2:
		return unary(1, one())
	}
	return bin(1, halved((n-1)/2), halved(n-1-(n-1)/2))
}

func quote(r R) string {
	return strconv.Itoa(r.Row) + "," + strconv.Itoa(r.Col) + strconv.FormatBool(r.RelRow) + strconv.FormatBool(r.RelCol)
}

// show tells e such that two that differ are told otherwise.
func show(e E) string {
	var b strings.Builder
	var put func(e E)
	put = func(e E) {
		b.WriteString("{" + strconv.Itoa(e.Kind) + " ")
		if e.V != (V{}) {
			b.WriteString(strconv.Itoa(e.V.Kind) + "|" + strconv.FormatInt(e.V.N.M, 10) + "e" + strconv.Itoa(e.V.N.S) + "|" + strconv.Quote(e.V.S) + "|" + strconv.FormatBool(e.V.B) + "|" + strconv.Itoa(e.V.E) + " ")
		}
		if e.A != (A{}) {
			b.WriteString(quote(e.A.A) + ":" + quote(e.A.B) + " ")
		}
		b.WriteString("S" + strconv.Itoa(e.Sheet) + " O" + strconv.Itoa(e.Op))
		for _, kid := range e.Kids {
			put(kid)
		}
		b.WriteString("}")
	}
	put(e)
	return b.String()
}

// brief tells as much of show as goes on a line.
func brief(e E) string {
	s := show(e)
	if len(s) > 200 {
		s = s[:200] + ".." + strconv.Itoa(len(s))
	}
	return s
}

func showAll(l []E) string {
	var b strings.Builder
	for _, e := range l {
		b.WriteString(show(e) + "\n")
	}
	return b.String()
}

// deep tells e in memory of its own.
func deep(e E) E {
	if e.Kids == nil {
		return e
	}
	kids := make([]E, len(e.Kids))
	for i, kid := range e.Kids {
		kids[i] = deep(kid)
	}
	return with(e, kids...)
}

// depthOf and countOf go down by calls of themselves.
func depthOf(e E) int {
	most := 0
	for _, kid := range e.Kids {
		most = max(most, depthOf(kid))
	}
	return most + 1
}

func countOf(e E) int {
	n := 1
	for _, kid := range e.Kids {
		n += countOf(kid)
	}
	return n
}

// refsOf tells what Refs is to tell; of each one its Kids are let be.
func refsOf(e E) []E {
	if e.Kind >= 2 && e.Kind <= 6 {
		return []E{with(e)}
	}
	var l []E
	for _, kid := range e.Kids {
		l = append(l, refsOf(kid)...)
	}
	return l
}

// wrong tells what Check is to tell of e, in the chapter's order.
func wrong(e E) api.Errno {
	switch {
	case depthOf(e) > deepest:
		return api.ErrDeep
	case countOf(e) > longest:
		return api.ErrLong
	}
	return firstWrong(e)
}

func firstWrong(e E) api.Errno {
	if got := wrongAlone(e); got != api.OK {
		return got
	}
	for _, kid := range e.Kids {
		if got := firstWrong(kid); got != api.OK {
			return got
		}
	}
	return api.OK
}

func isPlace(r R) bool { return r.Row >= 0 && r.Row < 65536 && r.Col >= 0 && r.Col < 256 }

// bounds of Op and of how many Kids, by Kind.
var bounds = [11]struct{ opLeast, opMost, kidsLeast, kidsMost int }{
	6: {0, 1023, 0, 0}, 7: {1, 3, 1, 1}, 8: {1, 12, 2, 2}, 9: {0, 29, 0, 30}, 10: {0, 0, 1, 1},
}

// wrongAlone asks what is wrong with e by a row of questions, each of all Kinds.
func wrongAlone(e E) api.Errno {
	k := e.Kind
	if k < 1 || k > 10 {
		return api.ErrArg
	}
	b := bounds[k]
	switch {
	case k != 1 && e.V != V{},
		(k < 2 || k > 5) && e.A.A != R{},
		k != 3 && k != 5 && e.A.B != R{},
		k != 4 && k != 5 && e.Sheet != 0,
		(k < 6 || k > 9) && e.Op != 0,
		k < 7 && len(e.Kids) > 0:
		return api.ErrArg
	case k == 1 && val.Check(e.V) != api.OK:
		return val.Check(e.V)
	case k == 1 && e.V.Kind == 0:
		return api.ErrArg
	case !isPlace(e.A.A) || !isPlace(e.A.B):
		return api.ErrRange
	case e.Sheet < 0 || e.Sheet > 7,
		e.Op < b.opLeast || e.Op > b.opMost,
		len(e.Kids) < b.kidsLeast || len(e.Kids) > b.kidsMost:
		return api.ErrArg
	}
	return api.OK
}

func TestP1001Numbers(t *testing.T) {
	for i, kind := range []int{expr.Const, expr.Cell, expr.Area, expr.Sheet, expr.SArea, expr.Name, expr.Unary, expr.Bin, expr.Call, expr.Paren} {
		if kind != i+1 {
			t.Errorf("P1001: Kind %d has the number %d", i+1, kind)
		}
	}
}

func TestP1001CheckTakes(t *testing.T) {
	relative := R{Row: 65535, Col: 255, RelRow: true, RelCol: true}
	for _, e := range []E{
		constant(num(0)),
		constant(num(math.MinInt64)),
		constant(V{Kind: 1, N: dec.Dec{M: -1235, S: 9}}),
		constant(text("")),
		constant(text(strings.Repeat("\u20AC", 1000))),
		constant(V{Kind: 3}),
		constant(V{Kind: 3, B: true}),
		constant(val.Fault(0)),
		constant(val.Fault(0x2A)),
		{Kind: 1, V: num(1), Kids: []E{}}, // no list and an empty one are the same
		cell(R{}),
		cell(at(65535, 255)),
		cell(relative),
		cell(R{RelRow: true}),
		area(R{}, R{}),
		area(at(65535, 255), R{}), // the greater corner may stand first
		area(R{}, relative),
		onSheet(0, at(1, 2)),
		onSheet(7, relative),
		areaOnSheet(0, R{}, R{}),
		areaOnSheet(7, at(65535, 0), at(0, 255)),
		name(0),
		name(1023),
		unary(1, one()),
		unary(2, one()),
		unary(3, one()),
		bin(1, one(), one()),
		bin(12, cell(R{}), name(5)),
		call(0),
		call(29),
		call(0, times(30, one())...),
		call(28, one()), // how many args a function has is not asked here
		{Kind: 9, Kids: []E{}},
		paren(one()),
		paren(paren(area(R{}, R{}))),
		bin(6, unary(1, paren(bin(1, one(), cell(relative)))), call(10, name(3), constant(text("a")), unary(3, one()))),
	} {
		if got := expr.Check(e); got != api.OK {
			t.Errorf("P1001: Check(%s): %v", brief(e), got)
		}
	}
	for op := 1; op <= 12; op++ {
		if got := expr.Check(bin(op, one(), one())); got != api.OK {
			t.Errorf("P1001: Check of the Bin %d: %v", op, got)
		}
	}
	for op := range 30 {
		if got := expr.Check(call(op, one())); got != api.OK {
			t.Errorf("P1001: Check of the Call %d: %v", op, got)
		}
	}
}

func TestP1001CheckRefuses(t *testing.T) {
	for _, c := range []struct {
		e    E
		want api.Errno
	}{
		// no such Kind
		{E{}, api.ErrArg},
		{E{Kind: -1}, api.ErrArg},
		{E{Kind: 11}, api.ErrArg},
		{E{Kind: 257, V: num(1)}, api.ErrArg},
		{E{Kind: 1 << 32}, api.ErrArg},
		// a field of another Kind
		{E{Kind: 1, V: num(1), A: A{A: at(1, 0)}}, api.ErrArg},
		{E{Kind: 1, V: num(1), A: A{B: R{RelCol: true}}}, api.ErrArg},
		{E{Kind: 1, V: num(1), Sheet: 1}, api.ErrArg},
		{E{Kind: 1, V: num(1), Op: 1}, api.ErrArg},
		{with(one(), one()), api.ErrArg},
		{E{Kind: 2, V: num(1)}, api.ErrArg},
		{E{Kind: 2, V: V{S: "a"}}, api.ErrArg},
		{E{Kind: 2, A: A{B: at(1, 0)}}, api.ErrArg},
		{E{Kind: 2, A: A{B: R{RelRow: true}}}, api.ErrArg},
		{E{Kind: 2, Sheet: 1}, api.ErrArg},
		{E{Kind: 2, Op: 1}, api.ErrArg},
		{with(cell(R{}), one()), api.ErrArg},
		{E{Kind: 3, V: V{B: true}}, api.ErrArg},
		{E{Kind: 3, Sheet: 1}, api.ErrArg},
		{E{Kind: 3, Op: -1}, api.ErrArg},
		{with(area(R{}, R{}), one()), api.ErrArg},
		{E{Kind: 4, V: V{E: 7}}, api.ErrArg},
		{E{Kind: 4, A: A{B: at(0, 1)}}, api.ErrArg},
		{E{Kind: 4, Op: 1}, api.ErrArg},
		{with(onSheet(0, R{}), one()), api.ErrArg},
		{E{Kind: 5, V: num(0)}, api.ErrArg},
		{E{Kind: 5, Op: 1}, api.ErrArg},
		{with(areaOnSheet(0, R{}, R{}), one()), api.ErrArg},
		{E{Kind: 6, V: num(0)}, api.ErrArg},
		{E{Kind: 6, A: A{A: at(0, 1)}}, api.ErrArg},
		{E{Kind: 6, Sheet: 1}, api.ErrArg},
		{with(name(0), one()), api.ErrArg},
		{E{Kind: 7, Op: 1, V: num(1), Kids: []E{one()}}, api.ErrArg},
		{E{Kind: 7, Op: 1, A: A{A: R{RelRow: true}}, Kids: []E{one()}}, api.ErrArg},
		{E{Kind: 7, Op: 1, Sheet: -1, Kids: []E{one()}}, api.ErrArg},
		{E{Kind: 8, Op: 1, V: num(1), Kids: times(2, one())}, api.ErrArg},
		{E{Kind: 8, Op: 1, Sheet: 1, Kids: times(2, one())}, api.ErrArg},
		{E{Kind: 9, A: A{B: at(0, 1)}}, api.ErrArg},
		{E{Kind: 9, Sheet: 1}, api.ErrArg},
		{E{Kind: 10, Op: 1, Kids: []E{one()}}, api.ErrArg},
		{E{Kind: 10, V: V{Kind: 1}, Kids: []E{one()}}, api.ErrArg},
		{E{Kind: 10, Sheet: 1, Kids: []E{one()}}, api.ErrArg},
		// a value that may not be
		{E{Kind: 1}, api.ErrArg},
		{constant(V{Kind: 9}), api.ErrArg},
		{constant(V{Kind: 1, N: dec.Dec{M: 10, S: 1}}), api.ErrArg},
		{constant(V{Kind: 3, B: true, E: 7}), api.ErrArg},
		{constant(val.Fault(1)), api.ErrArg},
		{constant(text("\xFF")), api.ErrForm},
		{constant(text(strings.Repeat("a", 1001))), api.ErrLong},
		// a place that there is not
		{cell(at(65536, 0)), api.ErrRange},
		{cell(at(-1, 0)), api.ErrRange},
		{cell(at(0, 256)), api.ErrRange},
		{cell(at(0, -1)), api.ErrRange},
		{cell(R{Row: -1, RelRow: true}), api.ErrRange},
		{area(at(65536, 0), R{}), api.ErrRange},
		{area(R{}, at(0, 256)), api.ErrRange},
		{onSheet(1, at(0, 256)), api.ErrRange},
		{areaOnSheet(1, at(0, -1), R{}), api.ErrRange},
		{areaOnSheet(1, R{}, at(65536, 0)), api.ErrRange},
		// a sheet that there is not
		{onSheet(8, R{}), api.ErrArg},
		{onSheet(-1, R{}), api.ErrArg},
		{areaOnSheet(8, R{}, R{}), api.ErrArg},
		{areaOnSheet(-1, R{}, R{}), api.ErrArg},
		// an Op that there is not
		{name(1024), api.ErrArg},
		{name(-1), api.ErrArg},
		{unary(0, one()), api.ErrArg},
		{unary(4, one()), api.ErrArg},
		{bin(0, one(), one()), api.ErrArg},
		{bin(13, one(), one()), api.ErrArg},
		{call(-1), api.ErrArg},
		{call(30), api.ErrArg},
		// too few Kids, too many
		{unary(1), api.ErrArg},
		{unary(1, one(), one()), api.ErrArg},
		{bin(1), api.ErrArg},
		{bin(1, one()), api.ErrArg},
		{bin(1, times(3, one())...), api.ErrArg},
		{call(0, times(31, one())...), api.ErrArg},
		{paren(), api.ErrArg},
		{paren(one(), one()), api.ErrArg},
	} {
		if got := expr.Check(c.e); got != c.want {
			t.Errorf("P1001: Check(%s): %v, want %v", brief(c.e), got, c.want)
		}
	}
}

// TestP1001CheckInOrder: where several errors apply, the first one in the
// chapter's order is told, of each ahead of its Kids', of Kids in order.
func TestP1001CheckInOrder(t *testing.T) {
	range0, form, long := cell(at(-1, 0)), constant(text("\xFF")), constant(text(strings.Repeat("a", 1001)))
	tooDeep := nest(deepest, one(), func(e E) E { return paren(e) })
	for _, c := range []struct {
		name string
		e    E
		want api.Errno
	}{
		{"a field, and the value", E{Kind: 1, V: text("\xFF"), Op: 1}, api.ErrArg},
		{"a field, and the value's length", E{Kind: 1, V: long.V, Kids: []E{form}}, api.ErrArg},
		{"a field, and the place", E{Kind: 2, A: A{A: at(-1, 0), B: at(0, 1)}}, api.ErrArg},
		{"a sheet of a Cell, and the place", E{Kind: 2, A: A{A: at(-1, 0)}, Sheet: 1}, api.ErrArg},
		{"a second place of a Cell that is none", E{Kind: 2, A: A{B: at(-1, 0)}}, api.ErrArg},
		{"Kids of a Cell, and the place", with(range0, one()), api.ErrArg},
		{"the place, and the sheet", onSheet(8, at(-1, 0)), api.ErrRange},
		{"the second place, and the sheet", areaOnSheet(-1, R{}, at(0, 256)), api.ErrRange},
		{"an Op, and a Kid's place", unary(4, range0), api.ErrArg},
		{"how many Kids, and the first one's place", bin(1, range0), api.ErrArg},
		{"how many Kids, and the last one's form", call(0, append(times(30, one()), form)...), api.ErrArg},
		{"no Kind, and a Kid's form", E{Kind: 11, Kids: []E{form}}, api.ErrArg},
		{"the first Kid's ahead of the second's", bin(1, range0, form), api.ErrRange},
		{"the second Kid's alone", bin(1, one(), form), api.ErrForm},
		{"the first Kid's Kid ahead of the second Kid", bin(1, paren(form), range0), api.ErrForm},
		{"the second Kid's Kid ahead of the third Kid", call(0, one(), paren(range0), form), api.ErrRange},
		{"the second Kid ahead of its Kid", call(0, one(), unary(4, range0), form), api.ErrArg},
		{"the last one of many", call(0, append(times(29, paren(one())), paren(paren(long)))...), api.ErrLong},
		{"too deep, and wrong at the root", with(E{Kind: 11}, tooDeep), api.ErrDeep},
		{"too deep, and wrong on the way", call(0, form, tooDeep), api.ErrDeep},
		{"too deep in what may have no Kids", with(one(), with(cell(R{}), tooDeep)), api.ErrDeep},
		{"too deep, and too many", call(0, append(times(1100, one()), tooDeep)...), api.ErrDeep},
		{"too deep ahead of too many", call(0, append([]E{tooDeep}, times(1100, one())...)...), api.ErrDeep},
		{"too many, and wrong at the root", E{Kind: 11, Kids: times(1024, one())}, api.ErrLong},
		{"too many, and more than a Call may have", call(0, times(1024, one())...), api.ErrLong},
		{"just not too many, and more than a Call may have", call(0, times(1023, one())...), api.ErrArg},
		{"too many, and wrong ahead", call(0, range0, wide(1024)), api.ErrLong},
		{"too many in what may have no Kids", with(name(1), times(1024, one())...), api.ErrLong},
		{"a text too long is not too many", paren(long), api.ErrLong},
	} {
		if got := expr.Check(c.e); got != c.want {
			t.Errorf("P1001: Check of %s: %v, want %v", c.name, got, c.want)
		}
	}
}

// TestP1001CheckOfAllFields holds, beside each Kind, all choices of what stands
// in the fields.
func TestP1001CheckOfAllFields(t *testing.T) {
	range0 := cell(at(-1, 0))
	for _, kind := range []int{math.MinInt, -1, 0, 1, 2, 3, 4, 5, 6, 7, 8, 9, 10, 11, 258, math.MaxInt} {
		for _, v := range []V{{}, num(1), text("\xFF"), {Kind: 3}, {S: "a"}, val.Fault(3)} {
			for _, a := range []R{{}, at(65535, 255), at(65536, 0), at(0, -1), {RelCol: true}} {
				for _, b := range []R{{}, at(1, 0), at(0, 256), {RelRow: true}} {
					for _, sheet := range []int{0, 1, 7, 8, -1} {
						for _, op := range []int{0, 1, 3, 4, 12, 13, 29, 30, 1023, 1024, -1} {
							for _, kids := range [][]E{nil, {}, {one()}, {range0}, {one(), name(2)}, {one(), range0, one()}, times(30, one()), times(31, one())} {
								e := E{Kind: kind, V: v, A: A{A: a, B: b}, Sheet: sheet, Op: op, Kids: kids}
								if got, want := expr.Check(e), wrong(e); got != want {
									t.Fatalf("P1001: Check(%s): %v, want %v", brief(e), got, want)
								}
							}
						}
					}
				}
			}
		}
	}
}

// wraps tells ways to have e one level lower, at each place among Kids.
func wraps() []func(E) E {
	return []func(E) E{
		func(e E) E { return paren(e) },
		func(e E) E { return unary(3, e) },
		func(e E) E { return bin(1, e, one()) },
		func(e E) E { return bin(1, one(), e) },
		func(e E) E { return call(0, e, one(), one()) },
		func(e E) E { return call(0, one(), e, one()) },
		func(e E) E { return call(0, paren(one()), call(1), e) },
		func(e E) E { return call(0, paren(paren(one())), e, paren(paren(paren(one())))) },
	}
}

func TestP1001CheckAtTheDeepest(t *testing.T) {
	for i, wrap := range wraps() {
		for n := 12; n <= 40; n++ {
			want := wrong(nest(n-1, one(), wrap))
			if got := expr.Check(nest(n-1, one(), wrap)); got != want {
				t.Errorf("P1001: Check, wrapped %d times in way %d: %v, want %v", n-1, i, got, want)
			}
		}
		if e := nest(99, one(), wrap); expr.Depth(e) != depthOf(e) {
			t.Errorf("P1001: Depth, wrapped 99 times in way %d: %d", i, expr.Depth(e))
		}
	}
	call0 := func(e E) E { return call(0, e) }
	for _, c := range []struct {
		e    E
		want api.Errno
	}{
		{nest(15, one(), call0), api.OK},
		{nest(16, one(), call0), api.ErrDeep},
		{nest(15, call(0), call0), api.OK},
		{nest(16, call(0), call0), api.ErrDeep},
		{nest(14, bin(1, one(), one()), call0), api.OK},
		{nest(15, bin(1, one(), one()), call0), api.ErrDeep},
		{nest(1000, one(), call0), api.ErrDeep},
	} {
		if got := expr.Check(c.e); got != c.want {
			t.Errorf("P1001: Check of one %d deep: %v, want %v", depthOf(c.e), got, c.want)
		}
	}
}

func TestP1001CheckAtTheLongest(t *testing.T) {
	for _, of := range []func(int) E{wide, halved} {
		for _, c := range []struct {
			n    int
			want api.Errno
		}{{1, api.OK}, {1000, api.OK}, {1023, api.OK}, {1024, api.OK}, {1025, api.ErrLong}, {1026, api.ErrLong}, {2048, api.ErrLong}, {30000, api.ErrLong}} {
			e := of(c.n)
			if countOf(e) != c.n || depthOf(e) > deepest {
				t.Fatalf("a formula of %d has %d, %d deep", c.n, countOf(e), depthOf(e))
			}
			if got := expr.Check(e); got != c.want {
				t.Errorf("P1001: Check of one of %d in all: %v, want %v", c.n, got, c.want)
			}
			if got := expr.Count(e); got != c.n {
				t.Errorf("P1001: Count of one of %d in all: %d", c.n, got)
			}
		}
	}
}

func TestP1001DepthAndCount(t *testing.T) {
	two := bin(1, one(), one())
	for _, c := range []struct {
		e            E
		depth, count int
	}{
		{E{}, 1, 1},
		{one(), 1, 1},
		{cell(R{}), 1, 1},
		{call(0), 1, 1},
		{E{Kind: 9, Kids: []E{}}, 1, 1},
		{paren(one()), 2, 2},
		{two, 2, 3},
		{bin(1, two, one()), 3, 5},
		{bin(1, one(), two), 3, 5},
		{bin(1, two, two), 3, 7},
		{call(0, one(), paren(paren(one())), two), 4, 8},
		{call(0, times(30, one())...), 2, 31},
		{call(0, call(0), call(0, call(0)), call(0)), 3, 5},
		{with(one(), two), 3, 4}, // whatever Kind has Kids
		{with(name(-1), one(), with(E{}, two)), 4, 6},
	} {
		if depth, count := expr.Depth(c.e), expr.Count(c.e); depth != c.depth || count != c.count {
			t.Errorf("P1001: Depth, Count(%s): %d, %d, want %d, %d", brief(c.e), depth, count, c.depth, c.count)
		}
	}
}

// different tells formulas each of which differs from all others.
func different() []E {
	l := []E{
		{}, {Kind: -1}, {Kind: 1}, one(), constant(num(2)), constant(V{Kind: 1, N: dec.Dec{M: 1, S: 1}}), constant(text("")), constant(text("a")), constant(text("A")),
		constant(V{Kind: 3}), constant(V{Kind: 3, B: true}), constant(val.Fault(7)), constant(val.Fault(15)), constant(V{Kind: 1, N: dec.Dec{M: 10, S: 1}}),
		name(0), name(1), call(0), call(1), call(0, one()), call(1, one()), call(0, one(), one()), call(0, one(), name(1)), call(0, name(1), one()),
		paren(one()), paren(paren(one())), unary(1, one()), unary(2, one()), bin(1, one(), name(1)), bin(1, name(1), one()), bin(2, one(), name(1)),
		// the same in the same order, with other Kids
		call(0, call(0), call(0)), call(0, call(0, call(0))), call(0, call(0, call(0)), call(0)), call(0, call(0), call(0, call(0))), call(0, call(0), call(0), call(0)),
		with(one(), one()), with(one(), one(), one()), with(cell(R{}), one()), with(cell(R{}), name(1)),
	}
	for kind := 2; kind <= 5; kind++ {
		for sheet := range 2 {
			for _, a := range []R{{}, at(1, 0), at(0, 1), {RelRow: true}, {RelCol: true}} {
				for _, b := range []R{{}, at(1, 0), at(0, 1), {RelRow: true}, {RelCol: true}} {
					l = append(l, E{Kind: kind, A: A{A: a, B: b}, Sheet: sheet})
				}
			}
		}
	}
	for _, e := range slices.Clone(l) {
		l = append(l, bin(9, one(), e), bin(10, e, paren(e)))
	}
	return l
}

func TestP1001Same(t *testing.T) {
	l := different()
	for i, a := range l {
		for k, b := range l {
			if got := expr.Same(a, b); got != (i == k) {
				t.Errorf("P1001: Same(%s, %s): %v", brief(a), brief(b), got)
			}
		}
		if !expr.Same(a, deep(a)) || !expr.Same(deep(a), a) {
			t.Errorf("P1001: Same(%s, a copy): false", brief(a))
		}
	}
	none, empty := call(0), E{Kind: 9, Kids: []E{}}
	if !expr.Same(none, empty) || !expr.Same(empty, none) || !expr.Same(paren(none), paren(empty)) {
		t.Error("P1001, P2: Same of no Kids and an empty list of them: false")
	}
	spare := call(0, one(), one(), one())
	if !expr.Same(with(spare, spare.Kids[:1]...), call(0, one())) {
		t.Error("P1001, P2: Same of Kids with spare room, and without: false")
	}
}

func TestP1001Refs(t *testing.T) {
	a, b, c, d, n := cell(at(1, 2)), area(at(1, 0), R{RelCol: true}), onSheet(7, R{RelRow: true}), areaOnSheet(1, at(0, 5), at(9, 9)), name(1023)
	for _, x := range []struct {
		e    E
		want []E
	}{
		{one(), nil},
		{call(28), nil},
		{call(0, one(), paren(call(0))), nil},
		{a, []E{a}},
		{b, []E{b}},
		{c, []E{c}},
		{d, []E{d}},
		{n, []E{n}},
		{unary(1, a), []E{a}},
		{bin(1, a, b), []E{a, b}},
		{bin(1, b, a), []E{b, a}},
		{bin(1, a, a), []E{a, a}}, // as often as they stand there
		{call(0, a, b, c, d, n), []E{a, b, c, d, n}},
		{call(0, n, d, c, b, a), []E{n, d, c, b, a}},
		{bin(1, bin(2, a, paren(b)), c), []E{a, b, c}},
		{bin(1, a, bin(2, b, paren(c))), []E{a, b, c}},
		{call(0, one(), bin(1, paren(paren(d)), n), call(1), a, unary(3, call(2, c, one(), b))), []E{d, n, a, c, b}},
		// what Kids these have is not gone into; what another one has is
		{with(a, b), []E{a}},
		{with(b, c), []E{b}},
		{with(c, d), []E{c}},
		{with(d, n), []E{d}},
		{with(n, a), []E{n}},
		{bin(1, with(a, paren(b), c), n), []E{a, n}},
		{with(one(), a), []E{a}},
		{with(E{Kind: 11}, a, with(E{}, b)), []E{a, b}},
	} {
		if got := expr.Refs(x.e); showAll(got) != showAll(x.want) {
			t.Errorf("P1001: Refs(%s):\n%swant\n%s", brief(x.e), showAll(got), showAll(x.want))
		}
	}
}

// roomy tells e with spare room behind all Kids, which has something in it, too.
func roomy(e E) E {
	kids := make([]E, 0, len(e.Kids)+2)
	for _, kid := range e.Kids {
		kids = append(kids, roomy(kid))
	}
	spare := kids[len(kids):cap(kids)]
	for i := range spare {
		spare[i] = cell(at(-7, -7))
	}
	e.Kids = kids
	return e
}

// whole tells all that e has, spare room, too.
func whole(e E) string {
	s := show(with(e))
	for _, kid := range e.Kids[:cap(e.Kids)] {
		s += "(" + whole(kid) + ")"
	}
	return s
}

// TestP2NothingIsChangedOrShared: what is handed in stays as it is, whatever is
// done to what is answered.
func TestP2NothingIsChangedOrShared(t *testing.T) {
	for _, plain := range append(different(), wide(200), halved(200), bin(1, cell(at(1, 2)), call(0, name(1), area(R{}, at(2, 2))))) {
		e := roomy(plain)
		before := whole(e)
		expr.Check(e)
		expr.Depth(e)
		expr.Count(e)
		expr.Same(e, plain)
		expr.Same(e, e)
		first, second := expr.Refs(e), expr.Refs(e)
		told := showAll(second)
		for i, x := range first[:cap(first)] {
			kids := x.Kids[:cap(x.Kids)]
			for k := range kids {
				kids[k] = E{Kind: -99}
			}
			first[:cap(first)][i] = E{Kind: -99}
		}
		if whole(e) != before {
			t.Fatalf("P2: %s is changed, or what is told of it shares with it", brief(plain))
		}
		if showAll(second) != told {
			t.Fatalf("P2: two answers of Refs(%s) share", brief(plain))
		}
	}
}

// leaf tells a formula without Kids.
func leaf(r *rand.Rand) E {
	place := func() R {
		return R{Row: r.Intn(65536), Col: r.Intn(256), RelRow: r.Intn(2) == 0, RelCol: r.Intn(2) == 0}
	}
	switch r.Intn(6) {
	case 0:
		return cell(place())
	case 1:
		return area(place(), place())
	case 2:
		return onSheet(r.Intn(8), place())
	case 3:
		return areaOnSheet(r.Intn(8), place(), place())
	case 4:
		return name(r.Intn(1024))
	}
	return constant([]V{num(r.Int63()), text("a"), {Kind: 3}, val.Fault(7)}[r.Intn(4)])
}

// grow tells a formula of no more levels than that; it takes no more Calls,
// signs and brackets than are left.
func grow(r *rand.Rand, levels int, left *int) E {
	if levels == 1 || *left <= 0 || r.Intn(4) == 0 {
		return leaf(r)
	}
	*left--
	kids := func(n int) []E {
		l := make([]E, n)
		for i := range l {
			l[i] = grow(r, levels-1, left)
		}
		return l
	}
	switch r.Intn(5) {
	case 0:
		return unary(1+r.Intn(3), kids(1)...)
	case 1:
		return bin(1+r.Intn(12), kids(2)...)
	case 2:
		return paren(kids(1)...)
	case 3:
		return call(r.Intn(30), kids(r.Intn(31))...)
	}
	return call(r.Intn(30), kids(r.Intn(4))...)
}

// spoil has one field of e be something else.
func spoil(r *rand.Rand, e *E) {
	switch r.Intn(8) {
	case 0:
		e.Kind = r.Intn(13) - 1
	case 1:
		e.V = []V{{}, text("\xFF"), text("\xFF"), num(4), {Kind: 3, E: 1}}[r.Intn(5)]
	case 2:
		e.A.A.Row += []int{1, 65536, -65536}[r.Intn(3)]
	case 3:
		e.A.B.Col += []int{1, 256, -256}[r.Intn(3)]
	case 4:
		e.Sheet += r.Intn(9) - 4
	case 5:
		e.Op += r.Intn(31) - 15
	case 6:
		e.Kids = append(slices.Clone(e.Kids), one())
	case 7:
		e.Kids = e.Kids[:len(e.Kids)/2]
	}
}

// anyOf tells where one of all that e has stands, by its number.
func anyOf(e *E, n int) *E {
	for n > 0 {
		n--
		for i := range e.Kids {
			if c := countOf(e.Kids[i]); n >= c {
				n -= c
				continue
			}
			e = &e.Kids[i]
			break
		}
	}
	return e
}

// TestP1001OfManyTrees holds all calls, by trees that grow by a row of numbers
// that is always the same, against what calls of themselves tell.
func TestP1001OfManyTrees(t *testing.T) {
	r := rand.New(rand.NewSource(10))
	seen := map[api.Errno]int{}
	for range 3000 {
		left := r.Intn([]int{5, 50, 500}[r.Intn(3)])
		e := grow(r, 1+r.Intn(19), &left)
		for range r.Intn(4) {
			spoil(r, anyOf(&e, r.Intn(countOf(e))))
		}
		want := wrong(e)
		seen[want]++
		if got := expr.Check(e); got != want {
			t.Fatalf("P1001: Check(%s): %v, want %v", brief(e), got, want)
		}
		if depth, count := expr.Depth(e), expr.Count(e); depth != depthOf(e) || count != countOf(e) {
			t.Fatalf("P1001: Depth, Count(%s): %d, %d, want %d, %d", brief(e), depth, count, depthOf(e), countOf(e))
		}
		if got, want := showAll(expr.Refs(e)), showAll(refsOf(e)); got != want {
			t.Fatalf("P1001: Refs(%s):\n%swant\n%s", brief(e), got, want)
		}
		other := deep(e)
		spoil(r, anyOf(&other, r.Intn(countOf(other))))
		want2 := show(e) == show(other)
		if expr.Same(e, other) != want2 || expr.Same(other, e) != want2 || !expr.Same(e, deep(e)) {
			t.Fatalf("P1001: Same(%s, %s) is not %v", brief(e), brief(other), want2)
		}
	}
	for _, e := range []api.Errno{api.OK, api.ErrArg, api.ErrForm, api.ErrRange, api.ErrDeep, api.ErrLong} {
		if seen[e] < 5 {
			t.Errorf("the trees have %d of %v alone", seen[e], e)
		}
	}
}

// TestP1OfGreatTrees: trees deeper and wider than any stack of calls would bear.
func TestP1OfGreatTrees(t *testing.T) {
	const n = 400000
	for i, wrap := range []func(E) E{
		func(e E) E { return paren(e) },
		func(e E) E { return E{Kind: 9, Kids: []E{{Kind: 6}, e}} },
		func(e E) E { return E{Kind: 99, Kids: []E{e, {Kind: 6}}} },
	} {
		e := nest(n, one(), wrap)
		names := []int{0, n, n}[i]
		if got := expr.Check(e); got != api.ErrDeep {
			t.Errorf("P1001: Check of a deep one: %v", got)
		}
		if depth, count := expr.Depth(e), expr.Count(e); depth != n+1 || count != n+1+names {
			t.Errorf("P1001: Depth, Count of a deep one: %d, %d", depth, count)
		}
		if !expr.Same(e, e) || expr.Same(e, e.Kids[len(e.Kids)/2]) || len(expr.Refs(e)) != names {
			t.Error("P1001: Same or Refs of a deep one")
		}
	}
	e := call(0, times(n, name(1))...)
	other := call(0, append(times(n-1, name(1)), name(2))...)
	if got := expr.Check(e); got != api.ErrLong {
		t.Errorf("P1001: Check of a wide one: %v", got)
	}
	if depth, count := expr.Depth(e), expr.Count(e); depth != 2 || count != n+1 || len(expr.Refs(e)) != n {
		t.Errorf("P1001: Depth, Count of a wide one: %d, %d", depth, count)
	}
	if !expr.Same(e, e) || expr.Same(e, other) {
		t.Error("P1001: Same of wide ones")
	}
}

// TestP1CheckEnds: one list of Kids that is its own is as deep as can be.
func TestP1CheckEnds(t *testing.T) {
	for n := 1; n <= 3; n++ {
		for i := range n {
			kids := times(n, one())
			kids[i] = paren(kids...)
			kids[i].Kids = kids
			if got := expr.Check(kids[i]); got != api.ErrDeep {
				t.Errorf("P1: Check of one that is its own Kid: %v", got)
			}
		}
	}
}
