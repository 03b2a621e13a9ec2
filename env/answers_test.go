package env_test

import (
	"math"
	"slices"
	"testing"

	"cashbook/api"
	"cashbook/env"
	"cashbook/expr"
)

// What stands in the spare room of lists that are handed in.
var (
	markSlot = slot(-7, -7, -7, text("spare"))
	markTree = X{Kind: -7}
)

// roomyTrees tells l with spare room behind it and behind all Kids.
func roomyTrees(l []X) []X {
	out := make([]X, 0, len(l)+2)
	for _, e := range l {
		e.Kids = roomyTrees(e.Kids)
		out = append(out, e)
	}
	for i := range 2 {
		out[:cap(out)][len(l)+i] = markTree
	}
	return out
}

// roomy tells e in memory of its own, with spare room behind all lists.
func roomy(e E) E {
	slots := make([]S, 0, len(e.Slots)+2)
	slots = append(slots, e.Slots...)
	for i := range 2 {
		slots[:cap(slots)][len(slots)+i] = markSlot
	}
	return E{Sheets: e.Sheets, Slots: slots, Names: roomyTrees(e.Names)}
}

// lists tells l and all lists of Kids within that have any room.
func lists(l []X) [][]X {
	var out [][]X
	if cap(l) > 0 {
		out = append(out, l)
	}
	for _, e := range l {
		out = append(out, lists(e.Kids)...)
	}
	return out
}

// isRoomy tells whether all spare room of e is as roomy has it.
func isRoomy(e E) bool {
	if !slices.Equal(e.Slots[len(e.Slots):cap(e.Slots)], []S{markSlot, markSlot}) {
		return false
	}
	for _, l := range lists(e.Names) {
		if !slices.EqualFunc(l[len(l):cap(l)], []X{markTree, markTree}, expr.Same) {
			return false
		}
	}
	return true
}

// spoilSpare writes into all spare room of e, spoil into its lists, too.
func spoilSpare(e E) {
	for i := range e.Slots[len(e.Slots):cap(e.Slots)] {
		e.Slots[len(e.Slots):cap(e.Slots)][i] = slot(-9, -9, -9, text("spoilt"))
	}
	for _, l := range lists(e.Names) {
		for i := range l[len(l):cap(l)] {
			l[len(l):cap(l)][i] = X{Kind: -9}
		}
	}
}

func spoil(e E) {
	spoilSpare(e)
	for i := range e.Slots {
		e.Slots[i] = slot(-9, -9, -9, text("spoilt"))
	}
	for _, l := range lists(e.Names) {
		for i := range l {
			l[i] = X{Kind: -9}
		}
	}
}

// isApart tells whether no two lists of e end in one memory.
func isApart(e E) bool {
	seen := map[*X]bool{}
	for _, l := range lists(e.Names) {
		end := &l[:cap(l)][cap(l)-1]
		if seen[end] {
			return false
		}
		seen[end] = true
	}
	return true
}

// puts tells what is put into Envs: something, nothing, what may not be.
func puts() []S {
	return []S{
		slot(0, 0, 0, num(5)), slot(0, 0, 0, V{}), slot(0, 0, 1, text("x")), slot(0, 5, 5, num(5)), slot(0, 5, 5, V{}), slot(1, 2, 3, val7()),
		slot(-1, 0, 0, num(5)), slot(0, 70000, 0, V{}), slot(0, 0, 0, V{Kind: 9}), slot(0, 0, 0, V{S: "a"}), slot(math.MaxInt, math.MinInt, 0, num(1)),
	}
}

func val7() V { return V{Kind: 4, E: 7} }

// TestP2NothingIsChangedOrShared: what is handed in stays as it is, its spare
// room, too, whatever is done to what is answered, and the other way.
func TestP2NothingIsChangedOrShared(t *testing.T) {
	deep := bin(call(one(), paren(cell(1, 2)), call()), call(call(call(one(), name(3)))))
	all := append(different(),
		E{Sheets: 2, Slots: []S{slot(0, 0, 0, num(1)), slot(0, 0, 2, num(2)), slot(1, 2, 3, num(3))}, Names: []X{deep, one(), deep}},
		of(1, many(50)...))
	for _, plain := range all {
		e := roomy(plain)
		before := showAll(e)
		for _, x := range puts() {
			env.Check(e)
			env.Get(e, x.P)
			env.Same(e, plain)
			env.Same(plain, e)
			first, second := env.Put(e, x.P, x.V), env.Put(e, x.P, x.V)
			told := showAll(second)
			if !isApart(first) {
				t.Fatalf("P2: two lists of one answer share memory: Put of %s in\n%s", showPlace(x.P), before)
			}
			spoilSpare(first)
			if showAll(first) != told {
				t.Fatalf("P2: a list of an answer is the spare room of another one: Put of %s in\n%s", showPlace(x.P), before)
			}
			spoil(first)
			if showAll(e) != before || !isRoomy(e) {
				t.Fatalf("P2: what is handed in is changed, or shares with the answer: Put of %s in\n%s", showPlace(x.P), before)
			}
			if showAll(second) != told {
				t.Fatalf("P2: two answers share memory: Put of %s in\n%s", showPlace(x.P), before)
			}
			other := roomy(plain)
			third := env.Put(other, x.P, x.V)
			spoil(other)
			if showAll(third) != told {
				t.Fatalf("P2: what is handed in is kept: Put of %s in\n%s", showPlace(x.P), before)
			}
		}
	}
}

// TestP2KidsThatAreShared: what one list of Kids stands for twice has two in the
// answer.
func TestP2KidsThatAreShared(t *testing.T) {
	kids := []X{one(), cell(1, 1)}
	both := call(call(kids...), call(kids...), call(kids[:1]...))
	e := env.Put(named(both, call(kids...), both), at(0, 0, 0), num(1))
	if !isApart(e) || showAll(E{Names: e.Names}) != showAll(E{Names: []X{both, call(kids...), both}}) {
		t.Errorf("P2: Put of Names that share their Kids:\n%s", showAll(e))
	}
}

// TestP3TheSameAnswers: calls answer the same again, whatever else was called.
func TestP3TheSameAnswers(t *testing.T) {
	for _, e := range different() {
		for _, x := range puts() {
			check, get, put := env.Check(e), env.Get(e, x.P), env.Put(e, x.P, x.V)
			env.Put(put, at(0, 0, 0), num(77))
			if env.Check(e) != check || env.Get(e, x.P) != get || showAll(env.Put(e, x.P, x.V)) != showAll(put) {
				t.Errorf("P3: other answers for %s in\n%s", showPlace(x.P), showAll(e))
			}
		}
	}
}

// among tells a formula that has a list of Kids which is among its own Kids.
func among(n int) X {
	kids := make([]X, n)
	for i := range kids {
		kids[i] = call(kids...)
	}
	return call(kids...)
}

// TestP1AnyData: whatever Env comes, each call ends, and Put tells an Env.
func TestP1AnyData(t *testing.T) {
	a, b, c := slot(0, 5, 5, num(1)), slot(0, 2, 2, num(2)), slot(-5, 1, 1, V{})
	var l []E
	for _, sheets := range []int{math.MinInt, -1, 0, 1, 8, 9, math.MaxInt} {
		l = append(l, of(sheets), of(sheets, a), of(sheets, a, b, c), of(sheets, c, c, c), of(sheets, a, a, a, b, b, b), of(sheets, many(5000)...))
		l = append(l, E{Sheets: sheets, Slots: []S{b}, Names: []X{{}, one(), nested(5000), {Kind: 2, Kids: []X{name(1)}}}})
	}
	for _, e := range l {
		env.Check(e)
		env.Same(e, of(1, a))
		for _, p := range append(ends(1), a.P, b.P, c.P) {
			env.Get(e, p)
		}
		for _, x := range append(puts(), a, b, c) {
			if got := env.Put(e, x.P, x.V); got.Sheets != e.Sheets || len(got.Names) != len(e.Names) {
				t.Errorf("P1: Put of %s in\n%s", showPlace(x.P), showAll(e))
			}
		}
	}
	for _, n := range []int{1, 2, 30} {
		e := E{Sheets: 1, Slots: []S{a}, Names: []X{one(), among(n), cell(1, 1)}}
		if got := env.Check(e); got != api.ErrDeep {
			t.Errorf("P1: Check of a Name that is among its own Kids: %v", got)
		}
		got := env.Put(e, b.P, b.V)
		if want := of(1, b, a); !slices.Equal(got.Slots, want.Slots) || env.Get(got, b.P) != b.V || len(got.Names) != 3 {
			t.Errorf("P1: Put beside a Name that is among its own Kids: %s", showAll(of(1, got.Slots...)))
		}
		if env.Same(e, of(1, a)) || env.Same(of(1, a), e) {
			t.Error("P1: Same of a Name that is among its own Kids, and none: true")
		}
	}
}
