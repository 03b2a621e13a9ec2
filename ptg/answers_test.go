package ptg_test

import (
	"bytes"
	"math"
	"math/rand"
	"slices"
	"testing"

	"cashbook/api"
	"cashbook/dec"
	"cashbook/expr"
	"cashbook/ptg"
	"cashbook/ref"
	"cashbook/val"
)

// roomy tells these bytes with spare room that has bytes, too: those of more
// tokens.
func roomy(b []byte) []byte {
	l := append(make([]byte, 0, len(b)+40), b...)
	copy(l[len(l):cap(l)], bytes.Repeat(raw("1C07"), 20))
	return l
}

// roomyKids tells e with spare room behind each list of Kids, in which there is
// something.
func roomyKids(e E) E {
	kids := make([]E, 0, len(e.Kids)+2)
	for _, kid := range e.Kids {
		kids = append(kids, roomyKids(kid))
	}
	for i := range 2 {
		kids[:cap(kids)][len(kids)+i] = name(77)
	}
	e.Kids = kids
	return e
}

// isRoomy tells whether e is as roomyKids told it.
func isRoomy(e E) bool {
	if cap(e.Kids) != len(e.Kids)+2 {
		return false
	}
	for i := range 2 {
		if !expr.Same(e.Kids[:cap(e.Kids)][len(e.Kids)+i], name(77)) {
			return false
		}
	}
	for _, kid := range e.Kids {
		if !isRoomy(kid) {
			return false
		}
	}
	return true
}

// lists tells all lists of Kids in e that have any room.
func lists(e E) [][]E {
	var out [][]E
	if cap(e.Kids) > 0 {
		out = append(out, e.Kids)
	}
	for _, kid := range e.Kids {
		out = append(out, lists(kid)...)
	}
	return out
}

// examples tells formulas of all kinds that Encode takes.
func examples() []E {
	var out []E
	for _, c := range pairs {
		out = append(out, c.e)
	}
	r := rand.New(rand.NewSource(1204))
	for len(out) < 400 {
		e := random(r, 6)
		if _, wrong := encode(e); wrong == api.OK {
			out = append(out, e)
		}
	}
	return out
}

// TestP2EncodeIsNew: e stays as it is, its spare room too, and what is told of
// it is no one else's.
func TestP2EncodeIsNew(t *testing.T) {
	for _, e := range examples() {
		want := tokens(e)
		given := roomyKids(e)
		first, _ := ptg.Encode(given)
		second, _ := ptg.Encode(given)
		for i := range first[:cap(first)] {
			first[:cap(first)][i] = 0xEE
		}
		if !bytes.Equal(second, want) {
			t.Errorf("P2: two answers share bytes: %s", brief(want))
		}
		if !expr.Same(given, e) || !isRoomy(given) {
			t.Errorf("P2: e is changed: %s", brief(want))
		}
	}
}

// TestP2DecodeIsNew: b stays as it is, its spare room too, nothing behind its
// end is read, and what is told hangs neither on b nor on another answer.
func TestP2DecodeIsNew(t *testing.T) {
	for _, want := range examples() {
		b := roomy(tokens(want))
		whole := slices.Clone(b[:cap(b)])
		count := ptg.Count(b)
		first, _, _ := ptg.Decode(b)
		second, _, wrong := ptg.Decode(b)
		if wrong != api.OK || count != expr.Count(want) || !bytes.Equal(b[:cap(b)], whole) {
			t.Fatalf("P2: %s: %v, %d, or it is changed", brief(b), wrong, count)
		}
		for i := range b[:cap(b)] {
			b[:cap(b)][i] = 0xEE
		}
		for _, l := range lists(first) {
			for i := range l[len(l):cap(l)] {
				l[len(l):cap(l)][i] = name(77)
			}
		}
		if !expr.Same(first, want) {
			t.Errorf("P2: spare room is shared: %s", brief(whole))
		}
		for _, l := range lists(first) {
			clear(l)
		}
		if !expr.Same(second, want) {
			t.Errorf("P2: b or another answer is shared: %s", brief(whole))
		}
		ends := map[*E]bool{}
		for _, l := range lists(second) {
			end := &l[:cap(l)][cap(l)-1]
			if ends[end] {
				t.Errorf("P2: two lists are of one memory: %s", brief(whole))
			}
			ends[end] = true
		}
	}
}

// TestP2ListsOfNothing: nil and an empty list are the same, handed in.
func TestP2ListsOfNothing(t *testing.T) {
	for _, b := range [][]byte{nil, {}, make([]byte, 0, 9)} {
		if e, at, wrong := ptg.Decode(b); !expr.Same(e, E{}) || at != 0 || wrong != api.ErrStack || ptg.Count(b) != 0 {
			t.Errorf("P2: %v, %d, %v", e, at, wrong)
		}
	}
	for _, kids := range [][]E{nil, {}, make([]E, 0, 9)} {
		if b, wrong := ptg.Encode(call(3, kids...)); !bytes.Equal(b, raw("220003")) || wrong != api.OK {
			t.Errorf("P2: %x, %v", b, wrong)
		}
		if b, wrong := ptg.Encode(E{Kind: 6, Kids: kids}); !bytes.Equal(b, raw("230000")) || wrong != api.OK {
			t.Errorf("P2: %x, %v", b, wrong)
		}
	}
}

// TestP4NothingBesideAnError: not what was read ahead of it, either.
func TestP4NothingBesideAnError(t *testing.T) {
	for _, c := range wrongs {
		e, _, wrong := ptg.Decode(raw(c.b))
		if e.Kind != 0 || e.V != (val.Val{}) || e.A != (ref.Area{}) || e.Sheet != 0 || e.Op != 0 || len(e.Kids) != 0 || wrong == api.OK {
			t.Errorf("P4: %s: %v, %v", c.name, e, wrong)
		}
	}
}

// TestP4OwnFieldsAlone: what is told has no more than its Kind has.
func TestP4OwnFieldsAlone(t *testing.T) {
	for _, c := range pairs {
		e, _, _ := ptg.Decode(raw(c.b))
		if wrong := expr.Check(e); wrong != api.OK {
			t.Errorf("P4: %s: %v", c.name, wrong)
		}
	}
}

// TestP1Formulas: of any plain data Encode ends, and tells what expr.Check does.
func TestP1Formulas(t *testing.T) {
	r := rand.New(rand.NewSource(1205))
	odd := func() int {
		return pick(r, 0, 1, 2, -1, 30, 255, 256, 1024, 65535, 65536, math.MaxInt, math.MinInt, r.Intn(12))
	}
	var garbage func(depth int) E
	garbage = func(depth int) E {
		e := E{
			Kind:  pick(r, r.Intn(12), odd()),
			V:     val.Val{Kind: pick(r, r.Intn(6), odd()), N: dec.Dec{M: int64(odd()), S: odd()}, S: pick(r, "", "\xff", "a€"), B: r.Intn(2) == 0, E: odd()},
			A:     ref.Area{A: R{Row: odd(), Col: odd()}, B: randomRef(r)},
			Sheet: odd(),
			Op:    odd(),
		}
		if r.Intn(2) == 0 {
			e.V, e.A, e.Sheet = val.Val{}, ref.Area{}, 0
		}
		for range pick(r, 0, 0, 1, 2, 31) {
			if depth > 0 {
				e.Kids = append(e.Kids, garbage(depth-1))
			}
		}
		return e
	}
	for range 5000 {
		e := garbage(3)
		want, wantWrong := encode(e)
		if b, wrong := ptg.Encode(e); !bytes.Equal(b, want) || wrong != wantWrong {
			t.Fatalf("P1: %v: %s, %v", e, brief(b), wrong)
		}
	}
	own := call(1, E{})
	own.Kids[0] = own // its own Kid
	if b, wrong := ptg.Encode(own); len(b) != 0 || wrong != api.ErrDeep {
		t.Errorf("P1: %s, %v", brief(b), wrong)
	}
}

// TestP1Bytes: of any bytes Decode and Count end, and tell the same of the same.
func TestP1Bytes(t *testing.T) {
	r := rand.New(rand.NewSource(1206))
	for range 3000 {
		b := make([]byte, pick(r, r.Intn(20), r.Intn(5000), longest, longest+1))
		for i := range b {
			b[i] = pick(r, byte(r.Intn(256)), byte(r.Intn(0x40)), 0x22, 0)
		}
		hold(t, b)
		hold(t, b)
	}
	for _, s := range []string{"220000", "1C00", "22FF00", "15", "03", "17E80300", "17E80301", "1F", "3B"} {
		for _, n := range []int{1, 2, 3, 300, 1024, 1025, 4096 / (len(s) / 2), 4097} {
			hold(t, raw(again(n, s)))
			hold(t, raw(again(1, "1C00")+again(n, s)))
		}
	}
	// as much as there may be of the bytes of one, and of what one takes
	hold(t, raw(again(1365, "220000")))
	hold(t, raw(again(255, "220000")+again(6, "22FF00"+again(254, "1C00"))+"22FF00"))
}
