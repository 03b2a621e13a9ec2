package ftext_test

import (
	"math"
	"math/rand"
	"strings"
	"testing"

	"cashbook/api"
	"cashbook/dec"
	"cashbook/expr"
	"cashbook/ftext"
	"cashbook/ref"
	"cashbook/val"
)

// roomyKids tells e with spare room behind each list of Kids, in which there is
// something.
func roomyKids(e E) E {
	kids := make([]E, 0, len(e.Kids)+2)
	for _, kid := range e.Kids {
		kids = append(kids, roomyKids(kid))
	}
	for i := range 2 {
		kids[:cap(kids)][len(kids)+i] = name(77)
	}
	e.Kids = kids
	return e
}

// isRoomy tells whether e is as roomyKids told it.
func isRoomy(e E) bool {
	if cap(e.Kids) != len(e.Kids)+2 {
		return false
	}
	for i := range 2 {
		if !expr.Same(e.Kids[:cap(e.Kids)][len(e.Kids)+i], name(77)) {
			return false
		}
	}
	for _, kid := range e.Kids {
		if !isRoomy(kid) {
			return false
		}
	}
	return true
}

// lists tells all lists of Kids in e that have any room.
func lists(e E) [][]E {
	var out [][]E
	if cap(e.Kids) > 0 {
		out = append(out, e.Kids)
	}
	for _, kid := range e.Kids {
		out = append(out, lists(kid)...)
	}
	return out
}

// spoil writes into all spare room of e, and then into its lists.
func spoil(e E, whole bool) {
	for _, l := range lists(e) {
		for i := range l[len(l):cap(l)] {
			l[len(l):cap(l)][i] = name(77)
		}
	}
	if whole {
		for _, l := range lists(e) {
			clear(l)
		}
	}
}

// apart tells whether no two lists of e end in one memory.
func apart(e E) bool {
	ends := map[*E]bool{}
	for _, l := range lists(e) {
		end := &l[:cap(l)][cap(l)-1]
		if ends[end] {
			return false
		}
		ends[end] = true
	}
	return true
}

// examples tells formulas of all kinds that Text takes.
func examples() []E {
	var out []E
	for _, c := range pairs {
		out = append(out, c.e)
	}
	for _, c := range bracketed {
		out = append(out, c.e)
	}
	r := rand.New(rand.NewSource(1305))
	for len(out) < 400 {
		if e := random(r, 6); expr.Check(e) == api.OK {
			out = append(out, e)
		}
	}
	return out
}

// TestP2Formulas: what is handed to Text and Strip stays as it is, its spare
// room too, and what Strip tells hangs neither on that nor on another answer.
func TestP2Formulas(t *testing.T) {
	for _, e := range examples() {
		words, _ := write(e, base)
		given := roomyKids(e)
		s, _ := ftext.Text(given, base)
		first, second := ftext.Strip(given), ftext.Strip(given)
		if !expr.Same(given, e) || !isRoomy(given) || s != words {
			t.Errorf("P2: e is changed: %s", brief(words))
		}
		spoil(first, true)
		if !expr.Same(given, e) || !isRoomy(given) {
			t.Errorf("P2: what is told is e's: %s", brief(words))
		}
		spoil(given, true)
		spoil(second, false)
		if !expr.Same(second, strip(e)) || !apart(second) {
			t.Errorf("P2: what is told is shared: %s", brief(words))
		}
	}
}

// TestP2ParseIsNew: what Parse tells is no one else's.
func TestP2ParseIsNew(t *testing.T) {
	for _, c := range pairs {
		first, _, _ := ftext.Parse(c.s, base)
		second, _, _ := ftext.Parse(c.s, base)
		spoil(first, true)
		spoil(second, false)
		if !expr.Same(second, c.e) || !apart(second) {
			t.Errorf("P2: what is told is shared: %s", brief(c.s))
		}
	}
}

// TestP2ListsOfNothing: nil and an empty list are the same, handed in.
func TestP2ListsOfNothing(t *testing.T) {
	for _, kids := range [][]E{nil, {}, make([]E, 0, 9)} {
		for _, e := range []E{call(28, kids...), {Kind: 1, V: val.Val{Kind: 1}, Kids: kids}} {
			want, _ := write(e, base)
			if s, wrong := ftext.Text(e, base); s != want || wrong != api.OK || !expr.Same(ftext.Strip(e), e) {
				t.Errorf("P2: %s, %v", s, wrong)
			}
		}
	}
}

// TestP4NothingBesideAnError: not what was read ahead of it, either.
func TestP4NothingBesideAnError(t *testing.T) {
	for _, c := range wrongs {
		e, _, wrong := ftext.Parse(c.s, base)
		if e.Kind != 0 || e.V != (val.Val{}) || e.A != (ref.Area{}) || e.Sheet != 0 || e.Op != 0 || len(e.Kids) != 0 || wrong == api.OK {
			t.Errorf("P4: %s: %v, %v", brief(c.s), e, wrong)
		}
	}
}

// TestP4OwnFieldsAlone: what is told has no more than its Kind has.
func TestP4OwnFieldsAlone(t *testing.T) {
	for _, c := range pairs {
		e, _, _ := ftext.Parse(c.s, base)
		if wrong := expr.Check(e); wrong != api.OK {
			t.Errorf("P4: %s: %v", brief(c.s), wrong)
		}
	}
}

// TestP1Formulas: of any plain data Text and Strip end, and Text tells what
// expr.Check does.
func TestP1Formulas(t *testing.T) {
	r := rand.New(rand.NewSource(1306))
	odd := func() int {
		return pick(r, 0, 1, 2, -1, 30, 255, 256, 1024, 65535, 65536, math.MaxInt, math.MinInt, r.Intn(12))
	}
	var garbage func(depth int) E
	garbage = func(depth int) E {
		e := E{
			Kind:  pick(r, r.Intn(12), odd()),
			V:     val.Val{Kind: pick(r, r.Intn(6), odd()), N: dec.Dec{M: int64(odd()), S: odd()}, S: pick(r, "", "\xff", "a€"), B: r.Intn(2) == 0, E: odd()},
			A:     ref.Area{A: R{Row: odd(), Col: odd()}, B: randomRef(r)},
			Sheet: odd(),
			Op:    odd(),
		}
		if r.Intn(2) == 0 {
			e.V, e.A, e.Sheet = val.Val{}, ref.Area{}, 0
		}
		for range pick(r, 0, 0, 1, 2, 31) {
			if depth > 0 {
				e.Kids = append(e.Kids, garbage(depth-1))
			}
		}
		return e
	}
	for range 5000 {
		e, base := garbage(3), C{Row: odd(), Col: odd()}
		ftext.Strip(e)
		s, wrong := ftext.Text(e, base)
		want := expr.Check(e)
		if want == api.OK && !ref.Good(base) {
			want = api.ErrRange
		}
		if wrong != want || want != api.OK && s != "" {
			t.Fatalf("P1: %v: %s, %v", e, brief(s), wrong)
		}
	}
	own := call(1, E{}, E{})
	own.Kids[0], own.Kids[1] = own, own // its own Kids
	ftext.Strip(own)
	if s, wrong := ftext.Text(own, base); s != "" || wrong != api.ErrDeep {
		t.Errorf("P1: %s, %v", s, wrong)
	}
}

// TestP1Words: of any bytes Parse ends, and tells the same of the same.
func TestP1Words(t *testing.T) {
	r := rand.New(rand.NewSource(1307))
	for range 20000 {
		b := make([]byte, r.Intn(30))
		for i := range b {
			b[i] = pick(r, byte(r.Intn(256)), byte(32+r.Intn(64)), '"', '(')
		}
		holdParse(t, string(b), base)
		holdParse(t, string(b), base)
	}
}

// TestP1LongWords: nothing in what is long goes down by calls, or takes long.
func TestP1LongWords(t *testing.T) {
	const many = 300000
	for _, c := range []struct {
		s    string
		at   int
		want api.Errno
	}{
		{strings.Repeat("(", many), many, api.ErrForm},
		{strings.Repeat("-", many), many, api.ErrForm},
		{strings.Repeat("SUM(", many), 4 * many, api.ErrForm},
		{strings.Repeat("(", many) + "1" + strings.Repeat(")", many), 0, api.ErrDeep},
		{strings.Repeat("-", many) + "1", 0, api.ErrDeep},
		{strings.Repeat("SUM(", many) + strings.Repeat(")", many), 0, api.ErrDeep},
		{"1" + strings.Repeat("%", many), 0, api.ErrDeep},
		{"1" + strings.Repeat("^1", many), 0, api.ErrDeep},
		{strings.Repeat("1^(", many) + "1" + strings.Repeat(")", many), 0, api.ErrDeep},
		{"SUM(1" + strings.Repeat(",1", many) + ")", 0, api.ErrLong},
		{strings.Repeat(" ", many), many, api.ErrForm},
		{strings.Repeat(`"`, 2*many+1), 0, api.ErrForm},
		{strings.Repeat(`"`, 2*many), 0, api.ErrLong},
		{strings.Repeat("1", many), 0, api.ErrNum},
		{strings.Repeat("A", many) + "1", 0, api.ErrRange},
		{strings.Repeat("$", many), 0, api.ErrForm},
		{"N" + strings.Repeat("1", many) + "'", 0, api.ErrForm},
		{"S" + strings.Repeat("1", many) + "!A1", 0, api.ErrForm},
		{strings.Repeat("S1!", many), 3, api.ErrForm},
	} {
		if e, at, wrong := ftext.Parse(c.s, base); !expr.Same(e, E{}) || at != c.at || wrong != c.want {
			t.Errorf("P1: %s: %d, %v, not %d, %v", brief(c.s), at, wrong, c.at, c.want)
		}
	}
}
