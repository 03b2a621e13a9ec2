package ptg_test

import (
	"bytes"
	"encoding/hex"
	"math"
	"slices"
	"strings"
	"testing"

	"cashbook/api"
	"cashbook/dec"
	"cashbook/expr"
	"cashbook/ptg"
	"cashbook/ref"
	"cashbook/val"
)

type (
	E = expr.Expr
	R = ref.Ref
)

// longest is how many bytes tokens may be in all.
const longest = 4096

func constant(v val.Val) E { return E{Kind: 1, V: v} }

func num(m int64, s int) E { return constant(val.Val{Kind: 1, N: dec.Dec{M: m, S: s}}) }

func text(s string) E { return constant(val.Val{Kind: 2, S: s}) }

func truth(b bool) E { return constant(val.Val{Kind: 3, B: b}) }

func fault(n int) E { return constant(val.Val{Kind: 4, E: n}) }

func at(row, col int) R { return R{Row: row, Col: col} }

// rel tells r with both flags.
func rel(r R) R {
	r.RelRow, r.RelCol = true, true
	return r
}

func cell(r R) E { return E{Kind: 2, A: ref.Area{A: r}} }

func area(a, b R) E { return E{Kind: 3, A: ref.Area{A: a, B: b}} }

func onSheet(sheet int, r R) E { return E{Kind: 4, A: ref.Area{A: r}, Sheet: sheet} }

func areaOnSheet(sheet int, a, b R) E {
	return E{Kind: 5, A: ref.Area{A: a, B: b}, Sheet: sheet}
}

func name(n int) E { return E{Kind: 6, Op: n} }

func unary(op int, kids ...E) E { return E{Kind: 7, Op: op, Kids: kids} }

func bin(op int, kids ...E) E { return E{Kind: 8, Op: op, Kids: kids} }

func call(op int, kids ...E) E { return E{Kind: 9, Op: op, Kids: kids} }

func paren(kids ...E) E { return E{Kind: 10, Kids: kids} }

func times(n int, e E) []E { return slices.Repeat([]E{e}, n) }

// nest tells e within so many Parens.
func nest(n int, e E) E {
	for range n {
		e = paren(e)
	}
	return e
}

// raw tells the bytes that are written so, spaces aside.
func raw(s string) []byte {
	b, e := hex.DecodeString(strings.ReplaceAll(s, " ", ""))
	if e != nil {
		panic(s)
	}
	return b
}

// again tells the bytes so many times.
func again(n int, s string) string { return strings.Repeat(s+" ", n) }

// brief tells as much of b as goes on a line.
func brief(b []byte) string {
	s := hex.EncodeToString(b)
	if len(s) > 120 {
		s = s[:120] + ".."
	}
	return s
}

// Formulas, and their tokens.
var pairs = []struct {
	name string
	e    E
	b    string
}{
	{"0", num(0, 0), "1F 0000000000000000 00"},
	{"1", num(1, 0), "1F 0100000000000000 00"},
	{"-1", num(-1, 0), "1F FFFFFFFFFFFFFFFF 00"},
	{"12.35", num(1235, 2), "1F D304000000000000 02"},
	{"bytes of a number in their order", num(0x0807060504030201, 0), "1F 0102030405060708 00"},
	{"the greatest number", num(math.MaxInt64, 0), "1F FFFFFFFFFFFFFF7F 00"},
	{"the least number", num(math.MinInt64, 0), "1F 0000000000000080 00"},
	{"most places", num(math.MinInt64, 9), "1F 0000000000000080 09"},
	{"the empty text", text(""), "17 0000 00"},
	{"a text", text("sum"), "17 0300 00 73756D"},
	{"a text of noughts", text("\x00\x00"), "17 0200 00 0000"},
	{"the greatest rune of one byte", text("aÿ"), "17 0200 00 61FF"},
	{"the least rune of two", text("aĀ"), "17 0200 01 6100 0001"},
	{"a rune of two units", text("€😀"), "17 0300 01 AC20 3DD8 00DE"},
	{"false", truth(false), "1D 00"},
	{"true", truth(true), "1D 01"},
	{"#NULL!", fault(0), "1C 00"},
	{"#DIV/0!", fault(7), "1C 07"},
	{"#VALUE!", fault(15), "1C 0F"},
	{"#REF!", fault(23), "1C 17"},
	{"#NAME?", fault(29), "1C 1D"},
	{"#NUM!", fault(36), "1C 24"},
	{"#N/A", fault(42), "1C 2A"},
	{"the first cell", cell(at(0, 0)), "24 0000 00 00"},
	{"a cell", cell(at(0x1234, 0x56)), "24 3412 56 00"},
	{"a row that is relative", cell(R{Row: 7, Col: 2, RelRow: true}), "24 0700 02 01"},
	{"a column that is", cell(R{Row: 7, Col: 2, RelCol: true}), "24 0700 02 02"},
	{"both", cell(rel(at(7, 2))), "24 0700 02 03"},
	{"the last cell", cell(at(65535, 255)), "24 FFFF FF 00"},
	{"the last cell, both", cell(rel(at(65535, 255))), "24 FFFF FF 03"},
	{"an area of nothing", area(R{}, R{}), "25 00000000 00000000"},
	{"an area", area(at(0x1234, 0x56), at(0x789A, 0xBC)), "25 3412 56 00 9A78 BC 00"},
	{"an area from behind", area(R{Row: 9, Col: 8, RelRow: true}, R{Row: 1, Col: 2, RelCol: true}), "25 0900 08 01 0100 02 02"},
	{"an area of all", area(at(0, 0), rel(at(65535, 255))), "25 0000 00 00 FFFF FF 03"},
	{"a cell of the first sheet", onSheet(0, at(1, 2)), "3A 00 0100 02 00"},
	{"a cell of the last", onSheet(7, R{Row: 0x1234, Col: 3, RelRow: true}), "3A 07 3412 03 01"},
	{"an area of the first sheet", areaOnSheet(0, R{}, rel(at(65535, 255))), "3B 00 0000 00 00 FFFF FF 03"},
	{"an area of the last", areaOnSheet(7, rel(at(1, 2)), R{Row: 3, Col: 4, RelCol: true}), "3B 07 0100 02 03 0300 04 02"},
	{"the first name", name(0), "23 0000"},
	{"a name of two bytes", name(0x0123), "23 2301"},
	{"the last name", name(1023), "23 FF03"},
	{"minus", unary(1, name(5)), "23 0500 13"},
	{"plus", unary(2, name(5)), "23 0500 12"},
	{"percent", unary(3, name(5)), "23 0500 14"},
	{"brackets", paren(name(5)), "23 0500 15"},
	{"+", bin(1, name(1), name(2)), "23 0100 23 0200 03"},
	{"-", bin(2, name(1), name(2)), "23 0100 23 0200 04"},
	{"*", bin(3, name(1), name(2)), "23 0100 23 0200 05"},
	{"/", bin(4, name(1), name(2)), "23 0100 23 0200 06"},
	{"^", bin(5, name(1), name(2)), "23 0100 23 0200 07"},
	{"&", bin(6, name(1), name(2)), "23 0100 23 0200 08"},
	{"=", bin(7, name(1), name(2)), "23 0100 23 0200 09"},
	{"<>", bin(8, name(1), name(2)), "23 0100 23 0200 0A"},
	{"<", bin(9, name(1), name(2)), "23 0100 23 0200 0B"},
	{"<=", bin(10, name(1), name(2)), "23 0100 23 0200 0C"},
	{">", bin(11, name(1), name(2)), "23 0100 23 0200 0D"},
	{">=", bin(12, name(1), name(2)), "23 0100 23 0200 0E"},
	{"the first function, of nothing", call(0), "22 00 00"},
	{"the last, of nothing", call(29), "22 00 1D"},
	{"a function of one", call(5, truth(true)), "1D01 22 01 05"},
	{"a function of three", call(10, truth(true), name(1), fault(42)), "1D01 230100 1C2A 22 03 0A"},
	{"a function of most", call(18, times(30, fault(7))...), again(30, "1C07") + "22 1E 12"},
	{"left and right", bin(2, bin(2, name(1), name(2)), bin(2, name(3), name(4))), "230100 230200 04 230300 230400 04 04"},
	{"all to the left", bin(1, bin(3, bin(6, name(1), name(2)), name(3)), name(4)), "230100 230200 08 230300 05 230400 03"},
	{"all to the right", bin(1, name(1), bin(3, name(2), bin(6, name(3), name(4)))), "230100 230200 230300 230400 08 05 03"},
	{"functions in functions", call(1, call(2), call(3, call(4), name(9), call(5))), "220002 220004 230900 220005 220303 220201"},
	{"signs on signs", unary(1, unary(1, unary(3, paren(unary(2, truth(false)))))), "1D00 12 15 14 13 13"},
	{"as deep as may be", nest(15, fault(0)), "1C00" + again(15, "15")},
	{"as many as may be", many(1024), manyTokens(1024)},
}

// many tells a formula of just n in all: functions of functions of nothing.
func many(n int) E {
	l := times((n-1)/31, call(0, times(30, call(1))...))
	l = append(l, times((n-1)%31, call(1))...)
	// beyond 30 they go into one more, in which there is room yet
	if len(l) > 30 {
		l = append(l[:28:28], call(2, l[28:len(l)-1]...))
	}
	return call(3, l...)
}

// manyTokens tells the tokens of many.
func manyTokens(n int) string {
	var put func(e E) string
	put = func(e E) string {
		out := ""
		for _, kid := range e.Kids {
			out += put(kid)
		}
		return out + "22" + hex.EncodeToString([]byte{byte(len(e.Kids)), byte(e.Op)})
	}
	return put(many(n))
}

func TestP1201EncodeAndDecode(t *testing.T) {
	for _, c := range pairs {
		want := raw(c.b)
		if b, wrong := ptg.Encode(c.e); !bytes.Equal(b, want) || wrong != api.OK {
			t.Errorf("P1201: %s: Encode: %s, %v; want %s", c.name, brief(b), wrong, brief(want))
		}
		if e, at, wrong := ptg.Decode(want); !expr.Same(e, c.e) || at != 0 || wrong != api.OK {
			t.Errorf("P1201: %s: Decode: %v, %d, %v", c.name, e, at, wrong)
		}
		if n := ptg.Count(want); n != expr.Count(c.e) {
			t.Errorf("P1201: %s: Count: %d; want %d", c.name, n, expr.Count(c.e))
		}
	}
}

// TestP1201EncodeIsCheckedAhead: what expr.Check does not take is told, also
// where there would be too many bytes.
func TestP1201EncodeIsCheckedAhead(t *testing.T) {
	long := text(strings.Repeat("€", 1000))
	for i, c := range []struct {
		e    E
		want api.Errno
	}{
		{E{}, api.ErrArg},
		{E{Kind: 11}, api.ErrArg},
		{constant(val.Val{}), api.ErrArg},
		{num(10, 1), api.ErrArg},
		{num(1, 10), api.ErrArg},
		{text("\xff"), api.ErrForm},
		{text(strings.Repeat("a", 1001)), api.ErrLong},
		{fault(1), api.ErrArg},
		{cell(at(65536, 0)), api.ErrRange},
		{cell(at(0, 256)), api.ErrRange},
		{cell(at(-1, 0)), api.ErrRange},
		{area(at(0, 0), at(0, -1)), api.ErrRange},
		{onSheet(8, at(0, 0)), api.ErrArg},
		{areaOnSheet(-1, at(0, 0), at(0, 0)), api.ErrArg},
		{name(1024), api.ErrArg},
		{unary(0, name(1)), api.ErrArg},
		{unary(4, name(1)), api.ErrArg},
		{unary(1), api.ErrArg},
		{bin(13, name(1), name(2)), api.ErrArg},
		{bin(1, name(1)), api.ErrArg},
		{call(30), api.ErrArg},
		{call(0, times(31, name(1))...), api.ErrArg},
		{paren(), api.ErrArg},
		{nest(16, name(1)), api.ErrDeep},
		{many(1025), api.ErrLong},
		{call(0, append(times(5, long), name(1024))...), api.ErrArg},
		{call(0, append(times(5, long), cell(at(65536, 0)))...), api.ErrRange},
		{call(0, append(times(5, long), nest(15, name(1)))...), api.ErrDeep},
		{call(0, times(5, long)...), api.ErrLong},
	} {
		if b, wrong := ptg.Encode(c.e); len(b) != 0 || wrong != c.want {
			t.Errorf("P1201: %d: Encode: %s, %v; want %v", i, brief(b), wrong, c.want)
		}
	}
}

// TestP1201MostBytes: the bound, and one more.
func TestP1201MostBytes(t *testing.T) {
	thousand := text(strings.Repeat("a", 1000)) // 1004 bytes
	for _, c := range []struct {
		last int // how many units the last text has
		want api.Errno
	}{{0, api.OK}, {72, api.OK}, {73, api.OK}, {74, api.ErrLong}, {75, api.ErrLong}, {1000, api.ErrLong}} {
		e := call(18, append(times(4, thousand), text(strings.Repeat("b", c.last)))...)
		b, wrong := ptg.Encode(e)
		if wrong != c.want || wrong != api.OK && len(b) != 0 || wrong == api.OK && len(b) != 4*1004+4+c.last+3 {
			t.Errorf("P1201: %d: Encode: %d bytes, %v", c.last, len(b), wrong)
		}
		if wrong != api.OK {
			continue
		}
		if back, at, wrong := ptg.Decode(b); !expr.Same(back, e) || at != 0 || wrong != api.OK {
			t.Errorf("P1201: %d: Decode: %d, %v", c.last, at, wrong)
		}
	}
	// the last byte is that of a sign
	e := unary(1, call(18, append(times(4, thousand), text(strings.Repeat("b", 72)))...))
	if b, wrong := ptg.Encode(e); len(b) != longest || wrong != api.OK {
		t.Errorf("P1201: Encode: %d bytes, %v", len(b), wrong)
	}
	if b, wrong := ptg.Encode(paren(e)); len(b) != 0 || wrong != api.ErrLong {
		t.Errorf("P1201: Encode: %d bytes, %v", len(b), wrong)
	}
}

// Bytes that are no formula, the place of what is wrong, and how many tokens
// stand ahead of it.
var wrongs = []struct {
	name  string
	b     string
	at    int
	want  api.Errno
	count int
}{
	{"nothing", "", 0, api.ErrStack, 0},

	{"a number without bytes", "1F", 0, api.ErrShort, 0},
	{"a number without its places", "1F 0100000000000000", 0, api.ErrShort, 0},
	{"a number that is short behind another", "1C00 1F 01000000000000", 2, api.ErrShort, 1},
	{"a truth without a byte", "1D", 0, api.ErrShort, 0},
	{"an error without a byte", "230000 1C", 3, api.ErrShort, 1},
	{"a cell without flags", "24 000000", 0, api.ErrShort, 0},
	{"an area of one Ref", "25 00000000", 0, api.ErrShort, 0},
	{"an area without the last flags", "25 00000000 000000", 0, api.ErrShort, 0},
	{"a cell of a sheet without flags", "3A 00 000000", 0, api.ErrShort, 0},
	{"a sheet alone", "3A 00", 0, api.ErrShort, 0},
	{"an area of a sheet without the last flags", "3B 00 00000000 000000", 0, api.ErrShort, 0},
	{"half a name", "23 00", 0, api.ErrShort, 0},
	{"a function without its number", "22 00", 0, api.ErrShort, 0},
	{"a function without bytes", "1C00 1C00 22", 4, api.ErrShort, 2},
	{"short is ahead of flags", "25 00000004 000000", 0, api.ErrShort, 0},
	{"short is ahead of flags of a sheet", "3B 00 00000004 000000", 0, api.ErrShort, 0},
	{"short is ahead of operands", "22 05", 0, api.ErrShort, 0},

	{"no token", "00", 0, api.ErrForm, 0},
	{"no token behind some", "230000 230000 FF", 6, api.ErrForm, 2},
	{"no token ahead of a short one", "00 1F", 0, api.ErrForm, 0},
	{"ahead of the Bins", "1C00 1C00 02", 4, api.ErrForm, 2},
	{"behind the Bins", "1C00 1C00 0F", 4, api.ErrForm, 2},
	{"ahead of the signs", "1C00 1C00 11", 4, api.ErrForm, 2},
	{"behind the brackets", "1C00 1C00 16", 4, api.ErrForm, 2},
	{"a truth of 2", "1D 02", 0, api.ErrForm, 0},
	{"a truth of 255", "1C00 1D FF", 2, api.ErrForm, 1},
	{"flags of 4", "24 000000 04", 0, api.ErrForm, 0},
	{"flags of 255", "24 000000 FF", 0, api.ErrForm, 0},
	{"flags of an area's first", "25 00000004 00000003", 0, api.ErrForm, 0},
	{"flags of an area's second", "1C00 25 00000003 00000004", 2, api.ErrForm, 1},
	{"flags of a cell of a sheet", "3A 00 00000007", 0, api.ErrForm, 0},
	{"flags of the first of a sheet", "3B 00 00000080 00000000", 0, api.ErrForm, 0},
	{"flags of the second of a sheet", "3B 00 00000000 00000010", 0, api.ErrForm, 0},
	{"flags are ahead of the sheet", "3A FF 00000004", 0, api.ErrForm, 0},

	{"a text without bytes", "17", 0, api.ErrShort, 0},
	{"half a length", "17 00", 0, api.ErrShort, 0},
	{"a text without flags", "17 0000", 0, api.ErrShort, 0},
	{"a text without units", "17 0100 00", 0, api.ErrShort, 0},
	{"a text without one", "1C00 17 0300 00 6161", 2, api.ErrShort, 1},
	{"a text with half of one", "17 0200 01 0001 00", 0, api.ErrShort, 0},
	{"a text of too many units", "17 E903 00" + again(1001, "61"), 0, api.ErrLong, 0},
	{"too many units that are not there", "1C00 17 E903 00", 2, api.ErrLong, 1},
	{"a text of most units", "17 E803 00" + again(999, "61"), 0, api.ErrShort, 0},
	{"flags of a text", "17 0100 02 61", 0, api.ErrForm, 0},
	{"flags of a text of nothing", "17 0000 FF", 0, api.ErrForm, 0},
	{"a half of a pair alone", "17 0100 01 00D8", 0, api.ErrForm, 0},
	{"the other half", "17 0200 01 00DC 00D8", 0, api.ErrForm, 0},
	{"a text of one byte a unit in two", "17 0100 01 6100", 0, api.ErrForm, 0},
	{"another one", "1C00 17 0200 01 FF00 6100", 2, api.ErrForm, 1},
	{"the empty text in two", "17 0000 01", 0, api.ErrForm, 0},

	{"a sign of nothing", "13", 0, api.ErrStack, 0},
	{"plus of nothing", "12 1C00", 0, api.ErrStack, 0},
	{"percent of nothing", "14", 0, api.ErrStack, 0},
	{"brackets of nothing", "15", 0, api.ErrStack, 0},
	{"a Bin of nothing", "03", 0, api.ErrStack, 0},
	{"a Bin of one", "1C00 0E", 2, api.ErrStack, 1},
	{"a Bin ahead of its second", "1C00 05 1C00", 2, api.ErrStack, 1},
	{"a second Bin too many", "1C00 1C00 03 03", 5, api.ErrStack, 3},
	{"a function of one of nothing", "22 01 00", 0, api.ErrStack, 0},
	{"a function of one more", "1C00 1C00 22 03 00", 4, api.ErrStack, 2},
	{"a function of 255", again(254, "1C00") + "22 FF 00", 508, api.ErrStack, 254},
	{"operands are ahead of which function", "22 01 FF", 0, api.ErrStack, 0},
	{"the first that is wrong", "1C00 03 00 1F", 2, api.ErrStack, 1},
	{"a token that is none ahead of lacking operands", "1C00 01 03", 2, api.ErrForm, 1},

	{"two are left", "1C00 1C00", 4, api.ErrStack, 2},
	{"many are left", again(2048, "1C00"), 4096, api.ErrStack, 2048},
	{"two are left behind a function", "1C00 1C00 220000", 7, api.ErrStack, 3},
	{"two are left, and neither may be", "1CFF 1CFF", 4, api.ErrStack, 2},

	{"a number that has noughts", "1F 0A00000000000000 01", 0, api.ErrArg, 1},
	{"nothing with places", "1F 0000000000000000 01", 0, api.ErrArg, 1},
	{"ten places", "1F 0100000000000000 0A", 0, api.ErrArg, 1},
	{"255 places", "1F 0100000000000000 FF", 0, api.ErrArg, 1},
	{"an error of 1", "1C 01", 0, api.ErrArg, 1},
	{"an error of 255", "1C FF", 0, api.ErrArg, 1},
	{"sheet 8", "3A 08 00000000", 0, api.ErrArg, 1},
	{"sheet 255 of an area", "3B FF 00000000 00000000", 0, api.ErrArg, 1},
	{"name 1024", "23 0004", 0, api.ErrArg, 1},
	{"name 65535", "23 FFFF", 0, api.ErrArg, 1},
	{"function 30", "22 00 1E", 0, api.ErrArg, 1},
	{"function 255 behind what is right", "1C00 1C00 22 02 FF", 0, api.ErrArg, 3},
	{"a function of 31", again(31, "1C00") + "22 1F 00", 0, api.ErrArg, 32},
	{"a function of 255", again(255, "1C00") + "22 FF 00", 0, api.ErrArg, 256},
	{"one too deep", "1C00" + again(16, "15"), 0, api.ErrDeep, 17},
	{"far too deep", "1C00" + again(4094, "13"), 0, api.ErrDeep, 4095},
	{"one too many", manyTokens(1025), 0, api.ErrLong, 1025},
	{"deep is ahead of what may not be", "1CFF" + again(16, "15"), 0, api.ErrDeep, 17},
	{"too many are ahead of what may not be", "1CFF 15" + manyTokens(1023) + "03", 0, api.ErrLong, 1026},
	{"what is wrong stands behind others", "1C00 1C00 23FFFF 05 03", 0, api.ErrArg, 5},
}

func TestP1201DecodeWrong(t *testing.T) {
	for _, c := range wrongs {
		b := raw(c.b)
		if e, at, wrong := ptg.Decode(b); !expr.Same(e, E{}) || at != c.at || wrong != c.want {
			t.Errorf("P1201: %s: Decode: %v, %d, %v; want %d, %v", c.name, e, at, wrong, c.at, c.want)
		}
		if n := ptg.Count(b); n != c.count {
			t.Errorf("P1201: %s: Count: %d; want %d", c.name, n, c.count)
		}
	}
}

// TestP1201TooManyBytes: that is told ahead of whatever is wrong in them.
func TestP1201TooManyBytes(t *testing.T) {
	for i, c := range []struct {
		b     []byte
		at    int
		want  api.Errno
		count int
	}{
		{raw("1C00" + again(longest-2, "13")), 0, api.ErrDeep, longest - 1},
		{raw("1C00" + again(longest-1, "13")), 0, api.ErrLong, 0},
		{make([]byte, longest), 0, api.ErrForm, 0},
		{make([]byte, longest+1), 0, api.ErrLong, 0},
		{raw(again(2047, "1C00") + "1C"), 4094, api.ErrShort, 2047},
		{raw(again(2048, "1C00")), 4096, api.ErrStack, 2048},
		{raw(again(2048, "1C00") + "1C"), 0, api.ErrLong, 0},
		{bytes.Repeat([]byte{0x1C}, 100000), 0, api.ErrLong, 0},
	} {
		e, at, wrong := ptg.Decode(c.b)
		if n := ptg.Count(c.b); !expr.Same(e, E{}) || at != c.at || wrong != c.want || n != c.count {
			t.Errorf("P1201: %d: %v, %d, %v, %d; want %d, %v, %d", i, e, at, wrong, n, c.at, c.want, c.count)
		}
	}
}

// TestP1201EachByte: of each byte that there is, whether a token begins with
// it, and, of those that hold small things, which ones hold one.
func TestP1201EachByte(t *testing.T) {
	ahead, behind := raw("1C00 1C00"), make([]byte, 20)
	for n := range 256 {
		known := n >= 0x03 && n <= 0x0E || slices.Contains(raw("12 13 14 15 17 1C 1D 1F 22 23 24 25 3A 3B"), byte(n))
		b := slices.Concat(ahead, []byte{byte(n)}, behind)
		_, at, wrong := ptg.Decode(b)
		if isNone := at == 4 && wrong == api.ErrForm; isNone == known {
			t.Errorf("P1201: %02X: %d, %v", n, at, wrong)
		}
		if _, at, wrong := ptg.Decode([]byte{byte(n)}); at != 0 || known == (wrong == api.ErrForm) {
			t.Errorf("P1201: %02X alone: %d, %v", n, at, wrong)
		}
	}
	for _, c := range []struct {
		name string
		b    string
		at   int // of the byte that goes through all
		good string
		want api.Errno // of the others
	}{
		{"a truth", "1D 00", 1, "00 01", api.ErrForm},
		{"an error", "1C 00", 1, "00 07 0F 17 1D 24 2A", api.ErrArg},
		{"places", "1F 0100000000000000 00", 9, "00 01 02 03 04 05 06 07 08 09", api.ErrArg},
		{"flags of a cell", "24 00000000", 4, "00 01 02 03", api.ErrForm},
		{"flags of an area's first", "25 00000000 00000000", 4, "00 01 02 03", api.ErrForm},
		{"flags of an area's second", "25 00000000 00000000", 8, "00 01 02 03", api.ErrForm},
		{"flags of a sheet's cell", "3A 00 00000000", 5, "00 01 02 03", api.ErrForm},
		{"flags of a sheet's first", "3B 00 00000000 00000000", 5, "00 01 02 03", api.ErrForm},
		{"flags of a sheet's second", "3B 00 00000000 00000000", 9, "00 01 02 03", api.ErrForm},
		{"the sheet of a cell", "3A 00 00000000", 1, "00 01 02 03 04 05 06 07", api.ErrArg},
		{"the sheet of an area", "3B 00 00000000 00000000", 1, "00 01 02 03 04 05 06 07", api.ErrArg},
		{"the upper byte of a name", "23 FF00", 2, "00 01 02 03", api.ErrArg},
		{"flags of a text", "17 0000 00", 3, "00", api.ErrForm},
	} {
		b := raw(c.b)
		for n := range 256 {
			b[c.at] = byte(n)
			want := c.want
			if slices.Contains(raw(c.good), byte(n)) {
				want = api.OK
			}
			if _, at, wrong := ptg.Decode(b); at != 0 || wrong != want {
				t.Errorf("P1201: %s: %02X: %d, %v; want %v", c.name, n, at, wrong, want)
			}
		}
	}
}

// TestP1201EachFunction: which one it is, and how many Kids it has.
func TestP1201EachFunction(t *testing.T) {
	few := []int{0, 1, 2, 3, 28, 29, 30, 31, 32, 33, 127, 128, 254, 255}
	for op := range 256 {
		for _, kids := range few {
			b := slices.Concat(bytes.Repeat(raw("1C2A"), kids), []byte{0x22, byte(kids), byte(op)})
			want := api.OK
			if op > 29 || kids > 30 {
				want = api.ErrArg
			}
			e, at, wrong := ptg.Decode(b)
			if at != 0 || wrong != want || wrong == api.OK && !expr.Same(e, call(op, times(kids, fault(42))...)) {
				t.Errorf("P1201: %d of %d: %d, %v", op, kids, at, wrong)
			}
		}
	}
}

// TestP1201Cut: what is cut off within a token is short at it; between two
// tokens it is what there is too much of that is wrong, at the end.
func TestP1201Cut(t *testing.T) {
	for _, c := range pairs {
		whole := raw(c.b)
		starts := []int{0}
		for n := 1; n <= len(whole); n++ {
			b := whole[:n:n]
			count := ptg.Count(b)
			if count == len(starts) {
				starts = append(starts, n)
			}
			if n == len(whole) {
				continue
			}
			at, want := starts[count], api.ErrShort
			if at == n {
				want = api.ErrStack
			}
			e, got, wrong := ptg.Decode(b)
			// what is ahead of a sign or of all the rest may be a formula of its own
			if wrong == api.OK && at == n && expr.Count(e) == count {
				continue
			}
			if got != at || wrong != want || !expr.Same(e, E{}) {
				t.Errorf("P1201: %s, %d of it: %d, %v; want %d, %v", c.name, n, got, wrong, at, want)
			}
		}
		if len(starts) != expr.Count(c.e)+1 || starts[len(starts)-1] != len(whole) {
			t.Errorf("P1201: %s: its tokens stand at %v", c.name, starts)
		}
	}
}
