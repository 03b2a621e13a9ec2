package ptg_test

import (
	"bytes"
	"encoding/binary"
	"math"
	"math/rand"
	"slices"
	"strings"
	"testing"
	"unicode/utf16"

	"cashbook/api"
	"cashbook/dec"
	"cashbook/expr"
	"cashbook/ptg"
	"cashbook/ref"
	"cashbook/val"
)

// encode tells what Encode is to tell, going down by calls of itself.
func encode(e E) ([]byte, api.Errno) {
	if wrong := expr.Check(e); wrong != api.OK {
		return nil, wrong
	}
	b := tokens(e)
	if len(b) > longest {
		return nil, api.ErrLong
	}
	return b, api.OK
}

func tokens(e E) []byte {
	var b []byte
	for _, kid := range e.Kids {
		b = append(b, tokens(kid)...)
	}
	switch e.Kind {
	case 1:
		return append(b, constToken(e.V)...)
	case 2:
		return append(append(b, 0x24), refBytes(e.A.A)...)
	case 3:
		return slices.Concat(b, []byte{0x25}, refBytes(e.A.A), refBytes(e.A.B))
	case 4:
		return append(append(b, 0x3A, byte(e.Sheet)), refBytes(e.A.A)...)
	case 5:
		return slices.Concat(b, []byte{0x3B, byte(e.Sheet)}, refBytes(e.A.A), refBytes(e.A.B))
	case 6:
		return binary.LittleEndian.AppendUint16(append(b, 0x23), uint16(e.Op))
	case 7:
		return append(b, "\x13\x12\x14"[e.Op-1])
	case 8:
		return append(b, byte(2+e.Op))
	case 9:
		return append(b, 0x22, byte(len(e.Kids)), byte(e.Op))
	}
	return append(b, 0x15)
}

func constToken(v val.Val) []byte {
	switch v.Kind {
	case 1:
		return append(binary.LittleEndian.AppendUint64([]byte{0x1F}, uint64(v.N.M)), byte(v.N.S))
	case 2:
		return append([]byte{0x17}, textBytes(v.S)...)
	case 3:
		if v.B {
			return []byte{0x1D, 1}
		}
		return []byte{0x1D, 0}
	}
	return []byte{0x1C, byte(v.E)}
}

func textBytes(s string) []byte {
	units := utf16.Encode([]rune(s))
	b := binary.LittleEndian.AppendUint16(nil, uint16(len(units)))
	if slices.ContainsFunc(units, func(u uint16) bool { return u > 255 }) {
		b = append(b, 1)
		for _, u := range units {
			b = binary.LittleEndian.AppendUint16(b, u)
		}
		return b
	}
	b = append(b, 0)
	for _, u := range units {
		b = append(b, byte(u))
	}
	return b
}

func refBytes(r R) []byte {
	flags := byte(0)
	if r.RelRow {
		flags = 1
	}
	if r.RelCol {
		flags += 2
	}
	return append(binary.LittleEndian.AppendUint16(nil, uint16(r.Row)), byte(r.Col), flags)
}

// fixed: how many bytes each token has that has not what it likes, and where
// among them a byte of flags or a truth stands.
var fixed = map[byte]struct {
	size  int
	most  byte // of those
	small []int
}{
	0x1F: {10, 0, nil}, 0x1D: {2, 1, []int{1}}, 0x1C: {2, 0, nil}, 0x23: {3, 0, nil}, 0x22: {3, 0, nil},
	0x24: {5, 3, []int{4}}, 0x25: {9, 3, []int{4, 8}}, 0x3A: {6, 3, []int{5}}, 0x3B: {10, 3, []int{5, 9}},
	0x12: {1, 0, nil}, 0x13: {1, 0, nil}, 0x14: {1, 0, nil}, 0x15: {1, 0, nil},
	3: {1, 0, nil}, 4: {1, 0, nil}, 5: {1, 0, nil}, 6: {1, 0, nil}, 7: {1, 0, nil}, 8: {1, 0, nil},
	9: {1, 0, nil}, 10: {1, 0, nil}, 11: {1, 0, nil}, 12: {1, 0, nil}, 13: {1, 0, nil}, 14: {1, 0, nil},
}

// decode tells what Decode is to tell, and Count: it parts the bytes into
// tokens first, and then goes down from the last one.
func decode(b []byte) (E, int, api.Errno, int) {
	if len(b) > longest {
		return E{}, 0, api.ErrLong, 0
	}
	var parts [][]byte
	left, at := 0, 0
	for at < len(b) {
		n, wrong := part(b[at:])
		if wrong != api.OK {
			return E{}, at, wrong, len(parts)
		}
		takes := takenBy(b[at : at+n])
		if takes > left {
			return E{}, at, api.ErrStack, len(parts)
		}
		left += 1 - takes
		parts = append(parts, b[at:at+n])
		at += n
	}
	if left != 1 {
		return E{}, at, api.ErrStack, len(parts)
	}
	e, _ := tree(parts)
	if wrong := expr.Check(e); wrong != api.OK {
		return E{}, 0, wrong, len(parts)
	}
	return e, 0, api.OK, len(parts)
}

// part tells how many bytes the first token has.
func part(b []byte) (int, api.Errno) {
	if b[0] == 0x17 {
		n, wrong := textPart(b[1:])
		return n + 1, wrong
	}
	f, known := fixed[b[0]]
	switch {
	case !known:
		return 0, api.ErrForm
	case len(b) < f.size:
		return 0, api.ErrShort
	}
	for _, i := range f.small {
		if b[i] > f.most {
			return 0, api.ErrForm
		}
	}
	return f.size, api.OK
}

func textPart(b []byte) (int, api.Errno) {
	if len(b) < 2 {
		return 0, api.ErrShort
	}
	n := int(b[0]) + 256*int(b[1])
	if n > 1000 {
		return 0, api.ErrLong
	}
	if len(b) < 3 {
		return 0, api.ErrShort
	}
	if b[2] > 1 {
		return 0, api.ErrForm
	}
	size := 3 + n*int(1+b[2])
	if len(b) < size {
		return 0, api.ErrShort
	}
	if s, paired := textOf(b[:size]); !paired || !bytes.Equal(textBytes(s), b[:size]) {
		return 0, api.ErrForm
	}
	return size, api.OK
}

// textOf tells the text, and whether no half of a pair stands alone in it.
func textOf(b []byte) (string, bool) {
	var units []uint16
	for i := 3; i < len(b); i += int(1 + b[2]) {
		u := uint16(b[i])
		if b[2] == 1 {
			u += uint16(b[i+1]) << 8
		}
		units = append(units, u)
	}
	runes := utf16.Decode(units)
	return string(runes), slices.Equal(utf16.Encode(runes), units)
}

func takenBy(b []byte) int {
	switch {
	case b[0] >= 3 && b[0] <= 14:
		return 2
	case b[0] >= 0x12 && b[0] <= 0x15:
		return 1
	case b[0] == 0x22:
		return int(b[1])
	}
	return 0
}

// tree tells the formula that ends with the last part, and the parts ahead of
// its own.
func tree(parts [][]byte) (E, [][]byte) {
	b := parts[len(parts)-1]
	parts = parts[:len(parts)-1]
	e := leaf(b)
	for range takenBy(b) {
		var kid E
		kid, parts = tree(parts)
		e.Kids = append([]E{kid}, e.Kids...)
	}
	return e, parts
}

func leaf(b []byte) E {
	switch b[0] {
	case 0x1F:
		return num(int64(binary.LittleEndian.Uint64(b[1:])), int(b[9]))
	case 0x17:
		s, _ := textOf(b[1:])
		return text(s)
	case 0x1D:
		return truth(b[1] == 1)
	case 0x1C:
		return fault(int(b[1]))
	case 0x24:
		return cell(refOf(b[1:]))
	case 0x25:
		return area(refOf(b[1:]), refOf(b[5:]))
	case 0x3A:
		return onSheet(int(b[1]), refOf(b[2:]))
	case 0x3B:
		return areaOnSheet(int(b[1]), refOf(b[2:]), refOf(b[6:]))
	case 0x23:
		return name(int(b[1]) + 256*int(b[2]))
	case 0x12:
		return unary(2)
	case 0x13:
		return unary(1)
	case 0x14:
		return unary(3)
	case 0x15:
		return paren()
	case 0x22:
		return call(int(b[2]))
	}
	return bin(int(b[0]) - 2)
}

func refOf(b []byte) R {
	return R{Row: int(b[0]) + 256*int(b[1]), Col: int(b[2]), RelRow: b[3] == 1 || b[3] == 3, RelCol: b[3] >= 2}
}

// hold holds what Decode and Count tell of b against the model; what is taken
// must be told again, byte for byte.
func hold(t *testing.T, b []byte) api.Errno {
	wantE, wantAt, want, wantCount := decode(b)
	e, at, wrong := ptg.Decode(b)
	if !expr.Same(e, wantE) || at != wantAt || wrong != want {
		t.Errorf("P1201: %s: %v, %d, %v; want %v, %d, %v", brief(b), e, at, wrong, wantE, wantAt, want)
	}
	if n := ptg.Count(b); n != wantCount {
		t.Errorf("P1201: %s: Count: %d; want %d", brief(b), n, wantCount)
	}
	if wrong != api.OK {
		return wrong
	}
	if again, wrong := ptg.Encode(e); !bytes.Equal(again, b) || wrong != api.OK {
		t.Errorf("P1202: %s is told again as %s, %v", brief(b), brief(again), wrong)
	}
	return wrong
}

func pick[T any](r *rand.Rand, l ...T) T { return l[r.Intn(len(l))] }

func randomRef(r *rand.Rand) R {
	return R{Row: pick(r, 0, 1, 255, 256, 65535, r.Intn(65536)), Col: pick(r, 0, 1, 127, 128, 255, r.Intn(256)), RelRow: r.Intn(2) == 0, RelCol: r.Intn(2) == 0}
}

func randomNum(r *rand.Rand) E {
	m := pick(r, 0, 1, -1, int64(r.Intn(1000)), int64(r.Uint64()), math.MaxInt64, math.MinInt64)
	return constant(val.Val{Kind: 1, N: dec.Norm(dec.Dec{M: m, S: r.Intn(10)})})
}

func randomText(r *rand.Rand) E {
	runes := pick(r, []rune("ab\x00\x7fé\u00ff"), []rune("ab\u0100€\ud7ff\ue000\uffff\ufeff"), []rune("a\u00ff€\U00010000😀\U0010ffff"))
	var b strings.Builder
	for range pick(r, 0, 1, 2, 3, r.Intn(40)) {
		b.WriteRune(pick(r, runes...))
	}
	return text(b.String())
}

func randomLeaf(r *rand.Rand) E {
	switch r.Intn(10) {
	case 0, 1:
		return randomNum(r)
	case 2:
		return randomText(r)
	case 3:
		return truth(r.Intn(2) == 0)
	case 4:
		return fault(pick(r, 0, 7, 15, 23, 29, 36, 42))
	case 5:
		return cell(randomRef(r))
	case 6:
		return area(randomRef(r), randomRef(r))
	case 7:
		return onSheet(r.Intn(8), randomRef(r))
	case 8:
		return areaOnSheet(r.Intn(8), randomRef(r), randomRef(r))
	}
	return name(pick(r, 0, 255, 256, 1023, r.Intn(1024)))
}

// random tells a formula of at most so many levels.
func random(r *rand.Rand, depth int) E {
	if depth <= 1 || r.Intn(4) == 0 {
		return randomLeaf(r)
	}
	switch r.Intn(5) {
	case 0:
		return unary(1+r.Intn(3), random(r, depth-1))
	case 1, 2:
		return bin(1+r.Intn(12), random(r, depth-1), random(r, depth-1))
	case 3:
		return paren(random(r, depth-1))
	}
	e := call(r.Intn(30))
	for range pick(r, 0, 1, 2, 3, r.Intn(31)) {
		e.Kids = append(e.Kids, random(r, min(depth-1, 1+r.Intn(depth))))
	}
	return e
}

// TestP1202ThereAndBack: of formulas of all kinds, also of such as are too long.
func TestP1202ThereAndBack(t *testing.T) {
	r := rand.New(rand.NewSource(1201))
	seen := map[api.Errno]int{}
	for range 20000 {
		e := random(r, pick(r, 1, 2, 3, 5, 8, 17))
		b, wrong := ptg.Encode(e)
		want, wantWrong := encode(e)
		if !bytes.Equal(b, want) || wrong != wantWrong {
			t.Fatalf("P1201: Encode: %s, %v; want %s, %v", brief(b), wrong, brief(want), wantWrong)
		}
		seen[wrong]++
		if wrong != api.OK {
			continue
		}
		back, at, wrong := ptg.Decode(b)
		if !expr.Same(back, e) || at != 0 || wrong != api.OK {
			t.Fatalf("P1202: %s: %v, %d, %v", brief(b), back, at, wrong)
		}
		if n := ptg.Count(b); n != expr.Count(e) {
			t.Fatalf("P1201: %s: Count: %d; want %d", brief(b), n, expr.Count(e))
		}
	}
	if seen[api.OK] < 10000 || seen[api.ErrLong] < 10 || seen[api.ErrDeep] < 10 {
		t.Errorf("P1202: too few of a kind: %v", seen)
	}
}

// TestP1201TakenApart: tokens with bytes that are changed, put in, left out.
func TestP1201TakenApart(t *testing.T) {
	r := rand.New(rand.NewSource(1202))
	seen := map[api.Errno]int{}
	for range 20000 {
		b, _ := encode(random(r, pick(r, 1, 2, 3, 4)))
		for range 1 + r.Intn(3) {
			i := r.Intn(len(b) + 1)
			switch r.Intn(5) {
			case 0:
				b = slices.Insert(b, i, byte(r.Intn(256)))
			case 1:
				b = slices.Delete(b, min(i, len(b)), min(i+1, len(b)))
			case 2:
				b = b[:i]
			default:
				if i < len(b) {
					b[i] = pick(r, byte(r.Intn(256)), b[i]^1<<r.Intn(8), byte(r.Intn(5)))
				}
			}
		}
		seen[hold(t, b)]++
	}
	for _, wrong := range []api.Errno{api.OK, api.ErrShort, api.ErrForm, api.ErrLong, api.ErrStack, api.ErrArg} {
		if seen[wrong] < 50 {
			t.Errorf("P1201: too few of a kind: %v", seen)
		}
	}
}

// TestP1201TokensAtRandom: one behind the other, however many operands there are.
func TestP1201TokensAtRandom(t *testing.T) {
	r := rand.New(rand.NewSource(1203))
	marks := raw("03 04 09 0E 12 13 14 15 1C 1D 1F 22 22 22 23 24 25 3A 3B 17 17")
	seen := map[api.Errno]int{}
	for range 40000 {
		var b []byte
		for range 1 + r.Intn(12) {
			mark := pick(r, marks...)
			b = append(b, mark)
			for i := range fixed[mark].size - 1 {
				small := slices.Contains(fixed[mark].small, i+1)
				b = append(b, pick(r, 0, byte(r.Intn(4)), 1, byte(r.Intn(256))))
				if small && r.Intn(10) > 0 {
					b[len(b)-1] &= fixed[mark].most
				}
			}
			if mark == 0x17 {
				b = append(b, byte(r.Intn(3)), 0, byte(r.Intn(2)), byte(r.Intn(256)), byte(r.Intn(256)))
			}
		}
		seen[hold(t, b)]++
	}
	if seen[api.OK] < 1000 || seen[api.ErrStack] < 1000 || seen[api.ErrForm] < 1000 {
		t.Errorf("P1201: too few of a kind: %v", seen)
	}
}

// TestP1201ShortOnes: all of at most two bytes, and all of three of which each
// may matter.
func TestP1201ShortOnes(t *testing.T) {
	hold(t, nil)
	for a := range 256 {
		hold(t, []byte{byte(a)})
		for b := range 256 {
			hold(t, []byte{byte(a), byte(b)})
			for _, c := range raw("00 01 02 03 0E 0F 12 15 17 1C 1D 22") {
				hold(t, []byte{byte(a), byte(b), c})
			}
		}
	}
}

// TestP1202EachText: each unit that a text may have, alone, in either width.
func TestP1202EachText(t *testing.T) {
	for u := range 1 << 16 {
		hold(t, []byte{0x17, 1, 0, 1, byte(u), byte(u >> 8)})
		hold(t, []byte{0x17, 2, 0, 1, byte(u), byte(u >> 8), 0xAC, 0x20})
	}
	for u := range 256 {
		hold(t, []byte{0x17, 1, 0, 0, byte(u)})
	}
	for n := range 1003 {
		for _, unit := range []string{"a", "€", "😀"} {
			e := text(strings.Repeat(unit, n))
			b, wrong := ptg.Encode(e)
			want, wantWrong := encode(e)
			if !bytes.Equal(b, want) || wrong != wantWrong {
				t.Errorf("P1201: %d of %s: %s, %v; want %v", n, unit, brief(b), wrong, wantWrong)
			}
			if wrong == api.OK {
				hold(t, b)
			}
		}
	}
}

// TestP1202EachRef: rows, columns and flags, in each place of a token.
func TestP1202EachRef(t *testing.T) {
	for n := range 1 << 16 {
		r := ref.Ref{Row: n, Col: n % 256, RelRow: n/256%2 == 1, RelCol: n/512%2 == 1}
		s := ref.Ref{Row: 65535 - n, Col: n / 256, RelRow: n%2 == 1, RelCol: n%4 > 1}
		for _, e := range []E{cell(r), area(r, s), onSheet(n%8, s), areaOnSheet(n/8%8, s, r)} {
			b, wrong := ptg.Encode(e)
			if want := tokens(e); !bytes.Equal(b, want) || wrong != api.OK {
				t.Fatalf("P1201: %v: %s, %v", e, brief(b), wrong)
			}
			if back, at, wrong := ptg.Decode(b); !expr.Same(back, e) || at != 0 || wrong != api.OK {
				t.Fatalf("P1202: %s: %v, %d, %v", brief(b), back, at, wrong)
			}
		}
	}
}
