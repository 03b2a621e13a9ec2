package fun_test

import (
	"math"
	"slices"
	"strconv"
	"strings"
	"testing"

	"cashbook/dec"
	"cashbook/fun"
	"cashbook/val"
)

type (
	V = val.Val
	A = fun.Arg
	D = dec.Dec
)

const (
	most  = math.MaxInt64
	least = math.MinInt64
)

// The functions in the chapter's order, and how many args each one has; -1: any
// number.
var table = []struct {
	name        string
	least, most int
}{
	{"SUM", 0, -1}, {"MIN", 0, -1}, {"MAX", 0, -1}, {"COUNT", 0, -1}, {"AVERAGE", 0, -1},
	{"ABS", 1, 1}, {"SIGN", 1, 1}, {"INT", 1, 1}, {"MOD", 2, 2}, {"ROUND", 2, 2},
	{"IF", 2, 3}, {"AND", 0, -1}, {"OR", 0, -1}, {"NOT", 1, 1},
	{"LEN", 1, 1}, {"LEFT", 1, 2}, {"RIGHT", 1, 2}, {"MID", 3, 3}, {"CONCAT", 0, -1}, {"UPPER", 1, 1}, {"LOWER", 1, 1},
	{"ISBLANK", 1, 1}, {"ISERROR", 1, 1}, {"IFERROR", 2, 2}, {"INDEX", 2, 2}, {"CHOOSE", 2, -1},
	{"EXACT", 2, 2}, {"REPT", 2, 2}, {"NA", 0, 0}, {"TYPE", 1, 1},
}

// Those that take all values of Areas.
var ofMany = []string{"SUM", "MIN", "MAX", "COUNT", "AVERAGE", "AND", "OR", "CONCAT"}

// Those of which one arg is chosen.
var ofChoice = []string{"IF", "IFERROR", "CHOOSE"}

var (
	blank  = V{}
	null   = fault(0)
	div0   = fault(7)
	value  = fault(15)
	refE   = fault(23)
	nameE  = fault(29)
	numE   = fault(36)
	na     = fault(42)
	faults = []V{null, div0, value, refE, nameE, numE, na}
	yes    = truth(true)
	no     = truth(false)
)

func num(m int64, s int) V { return V{Kind: 1, N: D{M: m, S: s}} }

func whole(m int64) V { return num(m, 0) }

func text(s string) V { return V{Kind: 2, S: s} }

func truth(b bool) V { return V{Kind: 3, B: b} }

func fault(e int) V { return V{Kind: 4, E: e} }

func area(l ...V) A { return A{Area: true, L: l} }

// bare tells an Arg that is no Area, of however many values.
func bare(l ...V) A { return A{L: l} }

// ones tells an Arg of each value.
func ones(l ...V) []A {
	var args []A
	for _, v := range l {
		args = append(args, bare(v))
	}
	return args
}

// number tells the function that is called so.
func number(name string) int {
	for op := range table {
		if table[op].name == name {
			return op
		}
	}
	panic("no function " + name)
}

func apply(name string, args ...A) V { return fun.Apply(number(name), args) }

// show tells v such that two that differ are told otherwise, but for long texts.
func show(v V) string {
	s := v.S
	if len(s) > 40 {
		s = s[:40] + ".." + strconv.Itoa(len(v.S))
	}
	out := []string{"Blank", dec.Text(v.N), strconv.Quote(s), strconv.FormatBool(v.B), val.Text(v)}
	if v.Kind < 0 || v.Kind > 4 || !val.Same(v, alone(v)) {
		return "{" + strconv.Itoa(v.Kind) + " " + strconv.FormatInt(v.N.M, 10) + "e" + strconv.Itoa(v.N.S) + " " + strconv.Quote(s) + " " + strconv.FormatBool(v.B) + " " + strconv.Itoa(v.E) + "}"
	}
	return out[v.Kind]
}

// alone tells v with no field but its Kind's.
func alone(v V) V {
	return []V{{}, {Kind: 1, N: v.N}, {Kind: 2, S: v.S}, {Kind: 3, B: v.B}, {Kind: 4, E: v.E}}[v.Kind]
}

func showArgs(args []A) string {
	var l []string
	for _, a := range args {
		var in []string
		for _, v := range a.L {
			in = append(in, show(v))
		}
		s := strings.Join(in, " ")
		switch {
		case a.Area:
			s = "[" + s + "]"
		case len(a.L) != 1:
			s = "<" + s + ">"
		}
		l = append(l, s)
	}
	return "(" + strings.Join(l, ", ") + ")"
}

// row is one call of Apply and what it is to tell.
type row struct {
	args []A
	want V
}

func check(t *testing.T, promise, name string, rows []row) {
	t.Helper()
	for _, r := range rows {
		if got := apply(name, r.args...); !val.Same(got, r.want) {
			t.Errorf("%s: %s%s: %s, want %s", promise, name, showArgs(r.args), show(got), show(r.want))
		}
	}
}

func TestP1101NameAndFind(t *testing.T) {
	if len(table) != 30 {
		t.Fatal("the chapter has thirty functions")
	}
	for op, f := range table {
		if got, ok := fun.Name(op); got != f.name || !ok {
			t.Errorf("P1101: Name(%d): %q, %v, want %q", op, got, ok, f.name)
		}
		if got, ok := fun.Find(f.name); got != op || !ok {
			t.Errorf("P1101: Find(%q): %d, %v, want %d", f.name, got, ok, op)
		}
		for _, s := range []string{strings.ToLower(f.name), f.name[:1] + strings.ToLower(f.name[1:]), f.name + " ", " " + f.name, f.name + "(", f.name + "\x00", f.name + f.name, "." + f.name} {
			if got, ok := fun.Find(s); got != 0 || ok {
				t.Errorf("P1101, P4: Find(%q): %d, %v", s, got, ok)
			}
		}
	}
	for _, op := range []int{-1, 30, 31, -30, 256, 1 << 32, math.MinInt, math.MaxInt} {
		if got, ok := fun.Name(op); got != "" || ok {
			t.Errorf("P1101, P4: Name(%d): %q, %v", op, got, ok)
		}
	}
	for _, s := range []string{"", " ", "S", "SU", "SUMM", "A", "N", "AV", "IFERR", "IS", "CONCATENATE", "TRUE", "FALSE", "0", "ſUM", "\xFF", "#N/A"} {
		if got, ok := fun.Find(s); got != 0 || ok {
			t.Errorf("P1101, P4: Find(%q): %d, %v", s, got, ok)
		}
	}
}

func TestP1101One(t *testing.T) {
	for _, v := range append([]V{blank, whole(0), num(-15, 1), text(""), text("a"), yes, no, {Kind: 9, S: "x"}}, faults...) {
		got := fun.One(v)
		if got.Area || len(got.L) != 1 || got.L[0] != v {
			t.Errorf("P1101: One(%s): %s", show(v), showArgs([]A{got}))
		}
		got.L[:cap(got.L)][0] = text("other")
		if again := fun.One(v); again.L[0] != v {
			t.Errorf("P2: two answers of One(%s) share", show(v))
		}
	}
}

// sample tells args that function op takes, so many, for which it tells no
// #VALUE!.
func sample(op, n int) []A {
	var args []A
	for range n {
		args = append(args, bare(whole(1)))
	}
	if table[op].name == "INDEX" && n > 0 {
		args[0] = area(whole(1), whole(2))
	}
	// with none at all they tell it, too
	if n == 0 && (table[op].name == "AND" || table[op].name == "OR") {
		return []A{area(yes)}
	}
	return args
}

func TestP1103NoSuchFunction(t *testing.T) {
	for _, op := range []int{-1, 30, 31, 255, 256, -30, 1 << 32, math.MinInt, math.MaxInt} {
		for _, args := range [][]A{nil, ones(whole(1)), ones(na), ones(na, na), {area(na)}, {bare()}} {
			if got := fun.Apply(op, args); got != value {
				t.Errorf("P1103: Apply(%d, %s): %s", op, showArgs(args), show(got))
			}
		}
	}
}

func TestP1103HowManyArgs(t *testing.T) {
	for op, f := range table {
		for n := range 40 {
			good := n >= f.least && (n <= f.most || f.most < 0)
			if good {
				if got := fun.Apply(op, sample(op, n)); got == value {
					t.Errorf("P1103: %s of %d args: #VALUE!", f.name, n)
				}
				continue
			}
			args := sample(op, n)
			if got := fun.Apply(op, args); got != value {
				t.Errorf("P1103: %s of %d args: %s", f.name, n, show(got))
			}
			// ahead of all values
			for i := range args {
				args[i] = bare(na)
			}
			if got := fun.Apply(op, args); got != value {
				t.Errorf("P1103: %s of %d args #N/A: %s", f.name, n, show(got))
			}
		}
	}
	for _, name := range ofMany {
		args := make([]A, 5000)
		for i := range args {
			args[i] = fun.One(whole(0))
		}
		if name == "CONCAT" {
			args = args[:1000]
		}
		if got := apply(name, args...); got == value {
			t.Errorf("P1103: %s of %d args: #VALUE!", name, len(args))
		}
	}
	others := slices.Repeat(ones(text("other")), 3000)
	others[2999] = bare(text("last"))
	if got := apply("CHOOSE", append(ones(whole(3000)), others...)...); got != text("last") {
		t.Errorf("P1103: CHOOSE of 3001 args: %s", show(got))
	}
}

// shapes tells Args that are not just one value.
func shapes() []A {
	return []A{area(whole(1)), area(), area(whole(1), whole(2)), area(na), bare(), bare(whole(1), whole(1)), bare(na, na), {L: []V{}}, {Area: true, L: []V{}}}
}

// TestP1103Shapes: where one value is wanted, nothing else stands, of any arg,
// ahead of all values.
func TestP1103Shapes(t *testing.T) {
	for op, f := range table {
		if slices.Contains(ofMany, f.name) || slices.Contains(ofChoice, f.name) {
			continue
		}
		for n := f.least; n <= f.most; n++ {
			for at := range n {
				if f.name == "INDEX" && at == 0 {
					continue
				}
				for _, shape := range shapes() {
					args := sample(op, n)
					args[at] = shape
					if got := fun.Apply(op, args); got != value {
						t.Errorf("P1103: %s%s: %s", f.name, showArgs(args), show(got))
					}
					for i := range args {
						if i != at && !args[i].Area {
							args[i] = bare(na)
						}
					}
					if got := fun.Apply(op, args); got != value {
						t.Errorf("P1103: %s%s: %s", f.name, showArgs(args), show(got))
					}
				}
			}
		}
	}
}

func TestP1103ShapesOfMany(t *testing.T) {
	for _, name := range ofMany {
		for _, shape := range []A{bare(), {L: []V{}}, bare(whole(1), whole(1)), bare(whole(1), whole(2), whole(3)), bare(na, na)} {
			for _, args := range [][]A{{shape}, {bare(whole(1)), shape}, {shape, bare(whole(1))}, {bare(na), shape}, {area(na), shape}, {shape, area(na)}} {
				if got := apply(name, args...); got != value {
					t.Errorf("P1103: %s%s: %s", name, showArgs(args), show(got))
				}
			}
		}
		for _, args := range [][]A{{area(whole(1))}, {area(whole(1), whole(2)), bare(whole(3))}, {area(), area(whole(1))}, {{Area: true, L: []V{}}, bare(yes)}} {
			if got := apply(name, args...); got.Kind == 4 {
				t.Errorf("P1103: %s%s: %s", name, showArgs(args), show(got))
			}
		}
	}
}

// TestP1103ShapesOfChoice: the first one's shape is asked, then that of the one
// that is chosen alone.
func TestP1103ShapesOfChoice(t *testing.T) {
	a := text("a")
	for _, shape := range shapes() {
		check(t, "P1103", "IF", []row{
			{[]A{shape, bare(a)}, value},
			{[]A{shape, bare(a), bare(a)}, value},
			{[]A{shape, bare(na), bare(na)}, value},
			{[]A{bare(yes), shape}, value},
			{[]A{bare(yes), shape, bare(a)}, value},
			{[]A{bare(no), bare(a), shape}, value},
			{[]A{bare(no), shape, bare(a)}, a},
			{[]A{bare(yes), bare(a), shape}, a},
			{[]A{bare(no), shape}, no},
			{[]A{bare(na), shape, shape}, na},
		})
		check(t, "P1103", "IFERROR", []row{
			{[]A{shape, bare(a)}, value},
			{[]A{shape, shape}, value},
			{[]A{bare(a), shape}, a},
			{[]A{bare(na), shape}, value},
		})
		check(t, "P1103", "CHOOSE", []row{
			{[]A{shape, bare(a)}, value},
			{[]A{shape, bare(na), shape}, value},
			{[]A{bare(whole(1)), shape, bare(a)}, value},
			{[]A{bare(whole(2)), shape, bare(a)}, a},
			{[]A{bare(whole(2)), bare(a), shape, bare(na)}, value},
			{[]A{bare(whole(3)), shape, shape, bare(a)}, a},
			{[]A{bare(na), shape, shape}, na},
		})
	}
}

// roomy tells args with spare room that has something in it, too.
func roomy(args []A) []A {
	out := make([]A, 0, len(args)+2)
	for _, a := range args {
		l := make([]V, 0, len(a.L)+2)
		l = append(l, a.L...)
		l = append(l, text("spare"), na)[:len(a.L)]
		out = append(out, A{Area: a.Area, L: l})
	}
	return append(out, bare(div0), area(na))[:len(args)]
}

// whatAll tells all that args have, spare room, too.
func whatAll(args []A) string {
	var l []A
	for _, a := range args[:cap(args)] {
		l = append(l, A{Area: a.Area, L: a.L[:cap(a.L)]})
	}
	return showArgs(l)
}

func TestP2NothingIsChanged(t *testing.T) {
	for op := range table {
		for _, plain := range [][]A{
			sample(op, 0), sample(op, 1), sample(op, 2), sample(op, 3),
			ones(text("a"), text("b"), text("c")), {area(text("x"), whole(2)), area(na)}, {area(blank, yes), bare(whole(2))},
			ones(whole(2), na), ones(text("abc"), whole(2), whole(1)), ones(na, whole(7)),
		} {
			args := roomy(plain)
			before := whatAll(args)
			first := fun.Apply(op, args)
			if second := fun.Apply(op, args); first != second {
				t.Errorf("P3: %s%s: %s, then %s", table[op].name, showArgs(args), show(first), show(second))
			}
			if whatAll(args) != before {
				t.Errorf("P2: %s changes %s to %s", table[op].name, before, whatAll(args))
			}
			if bare := fun.Apply(op, plain); first != bare {
				t.Errorf("P2: %s%s: %s, without spare room %s", table[op].name, showArgs(args), show(first), show(bare))
			}
		}
	}
}

// strange tells values that Check does not take.
func strange() []V {
	long := strings.Repeat("a", 1001)
	l := []V{text("\xFF"), text("a\xFFb\xED\xA0\x80"), text(long), text(strings.Repeat("\U0001F600", 600)), text(strings.Repeat("\xFF", 9000)), fault(-1), fault(1), fault(math.MaxInt), {S: "a"}, {Kind: 4, S: "a", B: true, N: D{M: 5}}, {Kind: 1, N: D{M: 7}, E: 7}, {Kind: 3, B: true, S: "a"}}
	for _, kind := range []int{-1, 5, 6, 256, math.MinInt, math.MaxInt} {
		l = append(l, V{Kind: kind}, V{Kind: kind, N: D{M: 3}, S: "a", B: true, E: 7})
	}
	for _, m := range []int64{0, 1, -10, 10, 64, most, least} {
		for _, s := range []int{-1, 1, 9, 10, 18, 19, 20, 63, 64, 1 << 20, math.MinInt, math.MaxInt} {
			l = append(l, num(m, s))
		}
	}
	return l
}

// TestP1OfWhatMayNotBe: of what val.Check does not take no more is promised
// than that each call ends.
func TestP1OfWhatMayNotBe(t *testing.T) {
	plain := []V{blank, whole(0), whole(2), whole(-1), num(15, 1), whole(most), whole(least), text(""), text("abc"), yes, na}
	bad := strange()
	for i, v := range bad {
		for op := -1; op <= 4; op++ {
			fun.Unary(op, v)
		}
		for k, w := range slices.Concat(plain, bad[:i+1]) {
			for op := range 14 {
				fun.Binary(op, v, w)
				fun.Binary(op, w, v)
			}
			for op := -1; op <= 30; op++ {
				fun.Apply(op, ones(v))
				fun.Apply(op, ones(v, w))
				fun.Apply(op, ones(w, v))
				fun.Apply(op, ones(v, w, plain[k%len(plain)]))
				fun.Apply(op, ones(plain[k%len(plain)], w, v))
				fun.Apply(op, []A{area(v, w), bare(w)})
				fun.Apply(op, []A{area(w, v), area(v)})
			}
		}
	}
}

// TestP1OfGreatOnes: what would be far too long is not made.
func TestP1OfGreatOnes(t *testing.T) {
	great := text(strings.Repeat("a", 1<<26))
	for _, n := range []int64{1, 2, 1000, 1001, 1 << 40, most} {
		if got := apply("REPT", ones(great, whole(n))...); got != value {
			t.Errorf("P1: REPT of a great text: %s", show(got))
		}
	}
	l := slices.Repeat([]V{text(strings.Repeat("\u20AC", 1000))}, 1<<18)
	for _, args := range [][]A{{area(l...)}, {area(l...), area(l...)}} {
		if got := apply("CONCAT", args...); got != value {
			t.Errorf("P1: CONCAT of great texts: %s", show(got))
		}
		if got := apply("COUNT", args...); got != whole(0) {
			t.Errorf("P1: COUNT of many texts: %s", show(got))
		}
	}
	if got := apply("CONCAT", area(l...), bare(na)); got != na {
		t.Errorf("P1103: CONCAT of great texts and #N/A: %s", show(got))
	}
}
