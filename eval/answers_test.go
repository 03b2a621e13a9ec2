package eval_test

import (
	"math"
	"math/rand"
	"slices"
	"strconv"
	"strings"
	"testing"

	"cashbook/eval"
	"cashbook/expr"
	"cashbook/ref"
)

// What stands in the spare room of lists that are handed in.
var (
	markSlot = S{P: at(-7, -7, -7), V: text("spare")}
	markTree = X{Kind: -7}
)

// roomyTrees tells l in memory of its own, with spare room behind all lists.
func roomyTrees(l []X) []X {
	out := make([]X, 0, len(l)+2)
	for _, e := range l {
		e.Kids = roomyTrees(e.Kids)
		out = append(out, e)
	}
	return append(out, markTree, markTree)[:len(l)]
}

func roomyTree(e X) X { return roomyTrees([]X{e})[0] }

func roomy(v E) E {
	slots := append(append(make([]S, 0, len(v.Slots)+2), v.Slots...), markSlot, markSlot)
	return E{Sheets: v.Sheets, Slots: slots[:len(v.Slots)], Names: roomyTrees(v.Names)}
}

// showTrees tells l, spare room, too.
func showTrees(l []X) string {
	var b strings.Builder
	for _, e := range l[:cap(l)] {
		b.WriteString("{" + strconv.Itoa(e.Kind) + " " + show(e.V) + " ")
		for _, r := range []ref.Ref{e.A.A, e.A.B} {
			b.WriteString(strconv.Itoa(r.Row) + "," + strconv.Itoa(r.Col) + strconv.FormatBool(r.RelRow) + strconv.FormatBool(r.RelCol) + " ")
		}
		b.WriteString("S" + strconv.Itoa(e.Sheet) + " O" + strconv.Itoa(e.Op) + " " + showTrees(e.Kids) + "}")
	}
	return b.String()
}

func showEnv(v E) string {
	var b strings.Builder
	b.WriteString(strconv.Itoa(v.Sheets))
	for _, s := range v.Slots[:cap(v.Slots)] {
		b.WriteString(" " + strconv.Itoa(s.P.Sheet) + "/" + strconv.Itoa(s.P.At.Row) + "/" + strconv.Itoa(s.P.At.Col) + " " + show(s.V))
	}
	return b.String() + showTrees(v.Names)
}

// sample tells formulas of all kinds.
func sample() []X {
	var l []X
	for _, s := range []string{
		"7", "A1", "C1", "S2!A1", "A1:A3", "S2!A1:B3", "N0'", "N1'", "N3'", "N8'", "-A1:A3", "A1:A3*S2!A1:A3", "(A1:A3)", "SUM(A1:A3,(N0'),A1:A3+1)", "IF(A1:A3>1,B1:B3,C1:C3)",
		"CONCAT(A1:C2)", "INDEX(A1:C3,A1:A3+1)", "IFERROR(B1:B3,REPT(\"x\",A1:A3))", "NA()", "A1:A4097", "CHOOSE(A1:A3,N0',N1',N4')", "ABS(1,2)",
	} {
		l = append(l, parse(s, here))
	}
	return l
}

// TestP2NothingIsChangedOrKept: what is handed in stays as it is, its spare room,
// too, and what is answered is nobody else's.
func TestP2NothingIsChangedOrKept(t *testing.T) {
	for _, plain := range sample() {
		e, v := roomyTree(plain), roomy(book())
		tree, all := showTrees([]X{e}), showEnv(v)
		one := eval.Eval(e, v, here)
		first, second := eval.Array(e, v, here, 3, 1), eval.Array(e, v, here, 3, 1)
		told := slices.Clone(second)
		if bare := eval.Eval(plain, book(), here); one != bare || !slices.Equal(first, eval.Array(plain, book(), here, 3, 1)) {
			t.Errorf("P2: %s: another answer with spare room", words(e, here))
		}
		for i := range first[:cap(first)] {
			first[:cap(first)][i] = text("spoilt")
		}
		if showTrees([]X{e}) != tree || showEnv(v) != all {
			t.Errorf("P2: %s: what is handed in is changed, or shares with the answer", words(plain, here))
		}
		for i := range v.Slots {
			v.Slots[i] = markSlot
		}
		for i := range v.Names {
			v.Names[i] = markTree
		}
		for i := range e.Kids {
			e.Kids[i] = markTree
		}
		if !slices.Equal(second, told) {
			t.Errorf("P2: %s: two answers share memory, or what is handed in is kept", words(plain, here))
		}
	}
}

// TestP2NoneAndEmpty: no list and an empty one are the same.
func TestP2NoneAndEmpty(t *testing.T) {
	none, empty := E{Sheets: 1}, E{Sheets: 1, Slots: []S{}, Names: []X{}}
	for _, l := range [][2]X{{{Kind: 9}, {Kind: 9, Kids: []X{}}}, {{Kind: 2}, {Kind: 2, Kids: []X{}}}, {{Kind: 6}, {Kind: 6, Kids: []X{}}}} {
		if eval.Eval(l[0], none, here) != eval.Eval(l[1], empty, here) || !slices.Equal(eval.Array(l[0], none, here, 2, 2), eval.Array(l[1], empty, here, 2, 2)) {
			t.Errorf("P2: %v: none and empty differ", l[0])
		}
	}
}

// TestP3TheSameAnswers: calls answer the same again, whatever else was called.
func TestP3TheSameAnswers(t *testing.T) {
	k := maker{rand.New(rand.NewSource(3))}
	for range 300 {
		v, e, p := k.env(), k.tree(4, true), k.place()
		one, l := eval.Eval(e, v, p), eval.Array(e, v, p, 2, 2)
		for _, other := range sample() {
			eval.Eval(other, book(), here)
			eval.Array(other, book(), here, 3, 1)
		}
		if eval.Eval(e, v, p) != one || !slices.Equal(eval.Array(e, v, p, 2, 2), l) {
			t.Errorf("P3: other answers for %s", words(e, p))
		}
	}
}

// among tells a formula that has a list of Kids which is among its own Kids.
func among(kind, n int) X {
	kids := make([]X, n)
	for i := range kids {
		kids[i] = X{Kind: kind, Op: 1, Kids: kids}
	}
	return X{Kind: kind, Op: 1, Kids: kids}
}

// wrongTrees tells formulas that expr.Check does not take.
func wrongTrees() []X {
	bad := ref.Area{A: ref.Ref{Row: math.MinInt, Col: math.MaxInt, RelRow: true}, B: ref.Ref{Row: -1, Col: 256, RelCol: true}}
	a1 := X{Kind: 2}
	l := []X{
		{}, {Kind: 1}, {Kind: 1, V: V{Kind: 9}}, {Kind: 1, V: text("\xFF")}, {Kind: 1, V: fault(1)}, {Kind: 2, A: bad}, {Kind: 3, A: bad}, {Kind: 4, Sheet: -1}, {Kind: 5, Sheet: math.MaxInt}, {Kind: 5, A: bad, Sheet: 8},
		{Kind: 6, Op: -1}, {Kind: 6, Op: math.MinInt}, {Kind: 6, Op: math.MaxInt}, {Kind: 7, Op: 1}, {Kind: 8, Op: 1}, {Kind: 8, Op: 1, Kids: []X{a1}}, {Kind: 7, Op: 1, Kids: []X{a1, a1}}, {Kind: 8, Op: 1, Kids: []X{a1, a1, a1}}, {Kind: 10}, {Kind: 10, Kids: []X{a1, a1}},
		{Kind: 9, Op: -1}, {Kind: 9, Op: 30}, {Kind: 9, Op: math.MaxInt, Kids: []X{a1}}, {Kind: 9, Kids: slices.Repeat([]X{a1}, 31)}, {Kind: 9, Kids: slices.Repeat([]X{a1}, 5000)}, {Kind: 2, Kids: []X{a1}}, {Kind: 1, V: num(1), Kids: []X{a1, {}}}, {Kind: 3, Op: 5, Sheet: 7, V: na},
		nested(a1, deepest+1), nested(a1, 100000), nested(X{}, 3), {Kind: 9, Kids: []X{a1, {Kind: 8, Kids: []X{{Kind: 6, Op: 5000}}}}},
		among(7, 1), among(8, 2), among(9, 1), among(9, 3), among(10, 1), among(2, 1), among(6, 1), among(0, 1),
	}
	for _, kind := range []int{-1, 11, math.MinInt, math.MaxInt} {
		l = append(l, X{Kind: kind}, X{Kind: kind, Kids: []X{a1}}, X{Kind: 10, Kids: []X{{Kind: kind}}})
	}
	return l
}

// wrongEnvs tells Envs that env.Check does not take.
func wrongEnvs() []E {
	a, b, c := S{P: at(0, 5, 5), V: num(1)}, S{P: at(0, 0, 0), V: V{Kind: 7, S: "a"}}, S{P: at(math.MinInt, math.MaxInt, math.MinInt), V: fault(-5)}
	many := slices.Repeat([]S{a, b, c}, 3000)
	self := X{Kind: 6}
	var l []E
	for _, sheets := range []int{math.MinInt, -1, 0, 1, 9, math.MaxInt} {
		l = append(l, E{Sheets: sheets}, E{Sheets: sheets, Slots: []S{a, b, c}}, E{Sheets: sheets, Slots: many},
			E{Sheets: sheets, Slots: []S{b, b, a}, Names: append([]X{self, {Kind: 10, Kids: []X{{Kind: 6, Op: 2}}}, {Kind: 6, Op: 1}, {Kind: 8, Op: 1, Kids: []X{self, self}}}, wrongTrees()...)},
			E{Sheets: sheets, Names: slices.Repeat([]X{self}, 5000)})
	}
	for _, v := range []V{{Kind: -1}, {S: "a"}, {Kind: 1, S: "a", E: 7}, text("\xFF\xFE"), text(strings.Repeat("a", 5000)), {Kind: 1}, part(5, -3), part(math.MinInt64, 40), part(10, 1), fault(9)} {
		l = append(l, E{Sheets: 1, Slots: []S{{P: at(0, 0, 0), V: v}, {P: at(0, 0, 1), V: v}}})
	}
	return l
}

// places tells places about all edges.
func places() []P {
	return []P{here, at(0, 0, 0), at(-1, -1, -1), at(8, mostRows, mostCols), at(math.MaxInt, math.MaxInt, math.MaxInt), at(math.MinInt, math.MinInt, math.MinInt), at(0, math.MinInt, math.MaxInt)}
}

// TestP1AnyData: whatever comes, each call ends and none panics.
func TestP1AnyData(t *testing.T) {
	good := sample()
	for n := range 5 {
		good = append(good, X{Kind: 6, Op: n}, X{Kind: 9, Kids: []X{{Kind: 6, Op: n}, {Kind: 3, A: ref.Area{B: ref.Ref{Row: 5, Col: 5}}}}})
	}
	for n := range 60 {
		good = append(good, X{Kind: 6, Op: n})
	}
	for op := range 30 {
		a1 := X{Kind: 2}
		for n := range 4 {
			good = append(good, X{Kind: 9, Op: op, Kids: slices.Repeat([]X{a1}, n)})
		}
	}
	for _, v := range append(wrongEnvs(), book()) {
		for _, e := range good {
			for _, p := range places() {
				eval.Eval(e, v, p)
				eval.Array(e, v, p, 2, 3)
			}
		}
	}
	for _, e := range wrongTrees() {
		for _, v := range append(wrongEnvs(), book()) {
			for _, p := range places() {
				eval.Eval(e, v, p)
				if l := eval.Array(e, v, p, 0, 1); len(l) != 0 {
					t.Errorf("P1501: 0 by 1: %d cells", len(l))
				}
				eval.Array(e, v, p, 2, 3)
			}
		}
	}
}

// TestP8WhatMayNotBe: what the package's own words say of what expr.Check does
// not take.
func TestP8WhatMayNotBe(t *testing.T) {
	for _, e := range wrongTrees() {
		if got := eval.Eval(e, book(), here); got != value {
			t.Errorf("Eval of what expr.Check does not take: %s", show(got))
		}
		if got := eval.Array(e, book(), here, 2, 2); len(got) != 0 {
			t.Errorf("Array of what expr.Check does not take: %s", showList(got))
		}
		v := book()
		v.Names[0] = e
		if got := eval.Eval(X{Kind: 6}, v, here); got != nameE {
			t.Errorf("a Name that expr.Check does not take: %s", show(got))
		}
	}
	v := book()
	v.Names[0], v.Names[1] = X{Kind: 6, Op: 1}, X{Kind: 6, Op: 0}
	for _, p := range places() {
		if got := eval.Eval(expr.Expr{Kind: 6, Op: 1}, v, p); got != nameE {
			t.Errorf("a Name in a Name: %s", show(got))
		}
	}
}
