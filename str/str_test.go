package str_test

import (
	"bytes"
	"math"
	"slices"
	"strings"
	"testing"
	"unicode/utf16"

	"cashbook/api"
	"cashbook/le"
	"cashbook/str"
)

// pair is a rune of two units: D83D, DE00.
const pair = "\U0001F600"

// text is one that may be, with its bytes.
type text struct {
	s string
	b []byte
}

func texts() []text {
	return []text{
		{"", []byte{0, 0, 0}},
		{"a", []byte{1, 0, 0, 'a'}},
		{"\x00", []byte{1, 0, 0, 0}},
		{"\x00\x01\x7F", []byte{3, 0, 0, 0, 1, 0x7F}},
		{"sum", []byte{3, 0, 0, 's', 'u', 'm'}},
		{"\u0080", []byte{1, 0, 0, 0x80}},
		{"a\u00E9", []byte{2, 0, 0, 'a', 0xE9}},
		{"\u00FF", []byte{1, 0, 0, 0xFF}},
		{"\u0100", []byte{1, 0, 1, 0, 1}},
		{"\u00FF\u0100", []byte{2, 0, 1, 0xFF, 0, 0, 1}},
		{"a\u20AC", []byte{2, 0, 1, 'a', 0, 0xAC, 0x20}},
		{"\u20ACa", []byte{2, 0, 1, 0xAC, 0x20, 'a', 0}},
		{"\uFEFF\uFFFE\uFFFF", []byte{3, 0, 1, 0xFF, 0xFE, 0xFE, 0xFF, 0xFF, 0xFF}},
		{"\uD7FF\uE000", []byte{2, 0, 1, 0xFF, 0xD7, 0, 0xE0}},
		{"\uFFFD", []byte{1, 0, 1, 0xFD, 0xFF}}, // what a range makes of wrong bytes may stand in a text
		{"\U00010000", []byte{2, 0, 1, 0, 0xD8, 0, 0xDC}},
		{"\U000103FF", []byte{2, 0, 1, 0, 0xD8, 0xFF, 0xDF}},
		{"\U00010400", []byte{2, 0, 1, 1, 0xD8, 0, 0xDC}},
		{"\U0010FFFF", []byte{2, 0, 1, 0xFF, 0xDB, 0xFF, 0xDF}},
		{pair, []byte{2, 0, 1, 0x3D, 0xD8, 0, 0xDE}},
		{"a" + pair + "b", []byte{4, 0, 1, 'a', 0, 0x3D, 0xD8, 0, 0xDE, 'b', 0}},
		{pair + pair, []byte{4, 0, 1, 0x3D, 0xD8, 0, 0xDE, 0x3D, 0xD8, 0, 0xDE}},
		{strings.Repeat("a", 255), slices.Concat([]byte{0xFF, 0, 0}, bytes.Repeat([]byte{'a'}, 255))},
		{strings.Repeat("a", 256), slices.Concat([]byte{0, 1, 0}, bytes.Repeat([]byte{'a'}, 256))},
		{strings.Repeat("\u00E9", 1000), slices.Concat([]byte{0xE8, 3, 0}, bytes.Repeat([]byte{0xE9}, 1000))},
		{strings.Repeat("\u20AC", 1000), slices.Concat([]byte{0xE8, 3, 1}, bytes.Repeat([]byte{0xAC, 0x20}, 1000))},
		{strings.Repeat(pair, 500), slices.Concat([]byte{0xE8, 3, 1}, bytes.Repeat([]byte{0x3D, 0xD8, 0, 0xDE}, 500))},
		{strings.Repeat("a", 998) + pair, slices.Concat([]byte{0xE8, 3, 1}, bytes.Repeat([]byte{'a', 0}, 998), []byte{0x3D, 0xD8, 0, 0xDE})},
	}
}

// wrongText is one that may not be.
type wrongText struct {
	name, s string
	want    api.Errno
}

func wrongTexts() []wrongText {
	return []wrongText{
		{"a byte that goes on with nothing", "\x80", api.ErrForm},
		{"a byte that is none of UTF-8", "a\xFFb", api.ErrForm},
		{"a rune that ends early", "a\xE2\x82", api.ErrForm},
		{"a rune that another one cuts off", "\xE2\x82a", api.ErrForm},
		{"a rune longer than it needs to be", "\xC0\x80", api.ErrForm},
		{"a high half as a rune", "\xED\xA0\x80", api.ErrForm},
		{"a low half as a rune", "\xED\xBF\xBF", api.ErrForm},
		{"both halves as runes", "\xED\xA0\xBD\xED\xB8\x80", api.ErrForm},
		{"a rune above the last", "\xF4\x90\x80\x80", api.ErrForm},
		{"the last byte of 1000 units", strings.Repeat("a", 999) + "\x80", api.ErrForm},
		{"one unit too many", strings.Repeat("a", 1001), api.ErrLong},
		{"one unit of two bytes too many", strings.Repeat("\u20AC", 1001), api.ErrLong},
		{"1000 runes, one of them a pair", strings.Repeat("a", 999) + pair, api.ErrLong},
		{"501 pairs", strings.Repeat(pair, 501), api.ErrLong},
		{"1000 pairs", strings.Repeat(pair, 1000), api.ErrLong},
		{"so many that two bytes go round", strings.Repeat("a", 65536), api.ErrLong},
		{"so many that two bytes go round to 5", strings.Repeat("a", 65541), api.ErrLong},
		{"too many, and no UTF-8 behind them", strings.Repeat("a", 2000) + "\x80", api.ErrForm},
		{"too many, and no UTF-8 ahead of them", "\xC3" + strings.Repeat("a", 2000), api.ErrForm},
	}
}

// roomy tells a list of these bytes with spare room that has bytes too.
func roomy(b ...byte) []byte {
	l := append(make([]byte, 0, len(b)+4000), b...)
	for i := range l[len(l):cap(l)] {
		l[len(l):cap(l)][i] = 0xEE
	}
	return l
}

// spoil writes over all that b has, its spare room too.
func spoil(b []byte) {
	b = b[:cap(b)]
	for i := range b {
		b[i] = ^b[i]
	}
}

// whole tells all that b has, its spare room too, in memory of its own.
func whole(b []byte) []byte { return bytes.Clone(b[:cap(b)]) }

// isList tells whether a is b itself, and no copy of it.
func isList(a, b []byte) bool {
	return len(a) == len(b) && (len(a) == 0 || &a[0] == &b[0])
}

func TestP601Units(t *testing.T) {
	for _, c := range texts() {
		want := len(utf16.Encode([]rune(c.s)))
		if n, e := str.Units(c.s); n != want || e != api.OK {
			t.Errorf("P601: Units(%.20q): %d, %v, want %d", c.s, n, e, want)
		}
	}
	for _, c := range wrongTexts() {
		if n, e := str.Units(c.s); n != 0 || e != c.want {
			t.Errorf("P601: Units: %s: %d, %v, want %v", c.name, n, e, c.want)
		}
	}
}

func TestP601Narrow(t *testing.T) {
	for _, c := range texts() {
		if got := str.Narrow(c.s); got != (c.b[2] == 0) {
			t.Errorf("P601: Narrow(%.20q): %v", c.s, got)
		}
	}
	for _, c := range []struct {
		s    string
		want bool
	}{
		{strings.Repeat("\u00FF", 999) + "\u0100", false},
		{"\u0100" + strings.Repeat("a", 999), false},
		{"a\U00010061", false},            // its lowest bits alone are an a's
		{strings.Repeat("a", 5000), true}, // no text, but of no other runes
	} {
		if got := str.Narrow(c.s); got != c.want {
			t.Errorf("P601: Narrow(%.20q): %v", c.s, got)
		}
	}
}

// aheads tells lists that a text may be put behind.
func aheads() [][]byte {
	return [][]byte{nil, {}, {9}, {1, 2, 3}, roomy(), roomy(7, 8, 9)}
}

func TestP601Put(t *testing.T) {
	for _, c := range texts() {
		for _, b := range aheads() {
			was := whole(b)
			got, e := str.Put(b, c.s)
			if want := slices.Concat(b, c.b); !bytes.Equal(got, want) || e != api.OK {
				t.Errorf("P601: Put(%x, %.20q): %.40x, %v, want %.40x", b, c.s, got, e, want)
			}
			spoil(got)
			if !bytes.Equal(whole(b), was) {
				t.Errorf("P2: Put(%x, %.20q) changes or hands out what it was handed", was, c.s)
			}
		}
	}
	for _, c := range wrongTexts() {
		for _, b := range aheads() {
			was := whole(b)
			got, e := str.Put(b, c.s)
			if !bytes.Equal(got, b) || e != c.want {
				t.Errorf("P601: Put of %s behind %x: %.40x, %v, want %v", c.name, b, got, e, c.want)
			}
			spoil(got)
			if !bytes.Equal(whole(b), was) {
				t.Errorf("P2: Put of %s behind %x changes or hands out what it was handed", c.name, was)
			}
		}
	}
}

func TestP601Size(t *testing.T) {
	for _, c := range texts() {
		if n := str.Size(c.s); n != len(c.b) {
			t.Errorf("P601: Size(%.20q): %d, want %d", c.s, n, len(c.b))
		}
	}
	for _, c := range wrongTexts() {
		if n := str.Size(c.s); n != 0 {
			t.Errorf("P601: Size of %s: %d", c.name, n)
		}
	}
}

// checkGet holds what Get answers against a text and how many bytes it has
// there, or against an error.
func checkGet(t *testing.T, name string, c le.Cursor, cuts []int, s string, size int, want api.Errno) {
	t.Helper()
	was, wasCuts := whole(c.B), slices.Clone(cuts)
	got, next, e := str.Get(c, cuts)
	if got != s || e != want {
		t.Errorf("P601: Get: %s: %.20q, %v, want %.20q, %v", name, got, e, s, want)
	}
	if next.At != c.At+size || !isList(next.B, c.B) {
		t.Errorf("P601: Get: %s: the Cursor at %d, want %d", name, next.At, c.At+size)
	}
	if !bytes.Equal(whole(c.B), was) || !slices.Equal(cuts, wasCuts) {
		t.Errorf("P2: Get: %s: what is handed in is changed", name)
	}
}

// TestP601Get reads each text where it stands alone, behind others' bytes, and
// ahead of them; cuts that are ahead of no unit change nothing.
func TestP601Get(t *testing.T) {
	for _, c := range texts() {
		for _, ahead := range [][]byte{nil, {5}, {1, 0, 0}} {
			at := len(ahead)
			end := at + len(c.b)
			for _, behind := range [][]byte{nil, {0}, {1, 0, 0, 'x'}} {
				from := le.Cursor{B: roomy(slices.Concat(ahead, c.b, behind)...), At: at}
				checkGet(t, "without cuts", from, nil, c.s, len(c.b), api.OK)
				checkGet(t, "an empty list of cuts", from, []int{}, c.s, len(c.b), api.OK)
				checkGet(t, "cuts all around", from, []int{-1, 0, at, at + 1, at + 2, end, end + 1, end + 2, math.MaxInt}, c.s, len(c.b), api.OK)
			}
		}
	}
}

func TestP601GetOfNoText(t *testing.T) {
	for _, c := range []struct {
		name string
		b    []byte
		want api.Errno
	}{
		{"nothing", nil, api.ErrShort},
		{"one byte", []byte{1}, api.ErrShort},
		{"no flags", []byte{1, 0}, api.ErrShort},
		{"no flags of an empty text", []byte{0, 0}, api.ErrShort},
		{"no unit", []byte{1, 0, 0}, api.ErrShort},
		{"no wide unit", []byte{1, 0, 1}, api.ErrShort},
		{"half a unit", []byte{1, 0, 1, 'a'}, api.ErrShort},
		{"the last unit lacks", []byte{3, 0, 0, 'a', 'b'}, api.ErrShort},
		{"half of the last unit lacks", []byte{2, 0, 1, 'a', 0, 'b'}, api.ErrShort},
		{"256 units of which one is there", []byte{0, 1, 0, 'a'}, api.ErrShort},
		{"1000 units, and none", []byte{0xE8, 3, 0}, api.ErrShort},
		{"the last of 1000 units lacks", slices.Concat([]byte{0xE8, 3, 0}, make([]byte, 999)), api.ErrShort},
		{"1001 units", slices.Concat([]byte{0xE9, 3, 0}, make([]byte, 1001)), api.ErrLong},
		{"1001 units of two bytes", slices.Concat([]byte{0xE9, 3, 1}, make([]byte, 2002)), api.ErrLong},
		{"65535 units", slices.Concat([]byte{0xFF, 0xFF, 0}, make([]byte, 65535)), api.ErrLong},
		{"flags 2", []byte{1, 0, 2, 'a', 0}, api.ErrForm},
		{"flags 2 of an empty text", []byte{0, 0, 2}, api.ErrForm},
		{"flags 128", []byte{1, 0, 0x80, 'a', 0}, api.ErrForm},
		{"flags 255", []byte{1, 0, 0xFF, 'a', 0}, api.ErrForm},
		{"a high half alone", []byte{1, 0, 1, 0, 0xD8}, api.ErrForm},
		{"the last high half alone", []byte{1, 0, 1, 0xFF, 0xDB}, api.ErrForm},
		{"a low half alone", []byte{1, 0, 1, 0, 0xDC}, api.ErrForm},
		{"the last low half alone", []byte{1, 0, 1, 0xFF, 0xDF}, api.ErrForm},
		{"two high halves", []byte{2, 0, 1, 0, 0xD8, 0, 0xD8}, api.ErrForm},
		{"two low halves", []byte{2, 0, 1, 0, 0xDC, 0, 0xDC}, api.ErrForm},
		{"the low half first", []byte{2, 0, 1, 0, 0xDC, 0, 0xD8}, api.ErrForm},
		{"a high half ahead of a pair", []byte{3, 0, 1, 0, 0xD8, 0, 0xD8, 0, 0xDC}, api.ErrForm},
		{"a low half behind a pair", []byte{3, 0, 1, 0, 0xD8, 0, 0xDC, 0, 0xDC}, api.ErrForm},
		{"a unit between both halves", []byte{3, 0, 1, 0, 0xD8, 'a', 0, 0, 0xDC}, api.ErrForm},
		{"a high half at the end, a low one behind the text", []byte{1, 0, 1, 0, 0xD8, 0, 0xDC}, api.ErrForm},
		{"too many ahead of no flags", []byte{0xE9, 3}, api.ErrLong},
		{"too many ahead of flags that are none", []byte{0xE9, 3, 2}, api.ErrLong},
		{"too many ahead of no unit", []byte{0xE9, 3, 0}, api.ErrLong},
		{"flags that are none ahead of no unit", []byte{1, 0, 2}, api.ErrForm},
		{"a half alone ahead of what lacks", []byte{3, 0, 1, 0, 0xDC, 'a', 0}, api.ErrShort},
	} {
		for _, ahead := range [][]byte{nil, {9, 9, 9}} {
			from := le.Cursor{B: roomy(slices.Concat(ahead, c.b)...), At: len(ahead)}
			checkGet(t, c.name, from, nil, "", 0, c.want)
		}
	}
}

// TestP601GetTakesWhatPutTellsOtherwise: a text of narrow runes may stand in
// units of two bytes, an empty one, too.
func TestP601GetTakesWhatPutTellsOtherwise(t *testing.T) {
	checkGet(t, "an empty one", le.Cursor{B: []byte{0, 0, 1}}, nil, "", 3, api.OK)
	checkGet(t, "a narrow one", le.Cursor{B: []byte{2, 0, 1, 'a', 0, 0xE9, 0}}, nil, "a\u00E9", 7, api.OK)
}

func TestP601GetCuts(t *testing.T) {
	for _, c := range []struct {
		name string
		b    []byte
		at   int
		cuts []int
		s    string
		size int
		want api.Errno
	}{
		{"ahead of the first unit", []byte{1, 0, 0, 0, 'a'}, 0, []int{3}, "a", 5, api.OK},
		{"ahead of the first unit, other flags", []byte{1, 0, 0, 1, 0xAC, 0x20}, 0, []int{3}, "\u20AC", 6, api.OK},
		{"ahead of the first unit, other flags back", []byte{1, 0, 1, 0, 'a', 0}, 0, []int{3}, "a", 5, api.OK},
		{"in the midst", []byte{2, 0, 0, 'a', 0, 'b'}, 0, []int{4}, "ab", 6, api.OK},
		{"in the midst, from one byte to two", []byte{3, 0, 0, 'a', 1, 0xAC, 0x20, 'b', 0}, 0, []int{4}, "a\u20ACb", 9, api.OK},
		{"in the midst, from two bytes to one", []byte{3, 0, 1, 0xAC, 0x20, 0, 'a', 'b'}, 0, []int{5}, "\u20ACab", 8, api.OK},
		{"ahead of each unit", []byte{3, 0, 1, 0, 'a', 1, 'b', 0, 0, 'c'}, 0, []int{3, 5, 8}, "abc", 10, api.OK},
		{"between the halves of a pair", []byte{2, 0, 1, 0x3D, 0xD8, 1, 0, 0xDE}, 0, []int{5}, pair, 8, api.OK},
		{"one right behind another's flags", []byte{1, 0, 0, 1, 0, 'a'}, 0, []int{3, 4}, "a", 6, api.OK},
		{"three, each right behind another's flags", []byte{2, 0, 0, 'a', 1, 0, 1, 'b', 0}, 0, []int{4, 5, 6}, "ab", 9, api.OK},
		{"at the end", []byte{2, 0, 0, 'a', 'b', 7}, 0, []int{5}, "ab", 5, api.OK},
		{"behind an empty text", []byte{0, 0, 0, 7}, 0, []int{3}, "", 3, api.OK},
		{"within the first three bytes", []byte{1, 0, 0, 'a'}, 0, []int{1, 2}, "a", 4, api.OK},
		{"where the text begins", []byte{7, 1, 0, 0, 'a'}, 1, []int{1}, "a", 4, api.OK},
		{"places are those of all bytes", []byte{7, 7, 7, 2, 0, 0, 'a', 1, 'b', 0}, 3, []int{3, 7}, "ab", 7, api.OK},
		{"so many ahead of the text", []byte{7, 7, 7, 7, 7, 1, 0, 0, 'a'}, 5, []int{1, 2, 3, 4}, "a", 4, api.OK},
		{"the same one twice", []byte{1, 0, 0, 0, 'a'}, 0, []int{3, 3}, "a", 5, api.OK},

		{"no flags behind the first", []byte{1, 0, 0}, 0, []int{3}, "", 0, api.ErrShort},
		{"no unit behind the flags anew", []byte{1, 0, 0, 0}, 0, []int{3}, "", 0, api.ErrShort},
		{"the flags are one byte that lacks at the end", []byte{2, 0, 0, 'a', 0}, 0, []int{4}, "", 0, api.ErrShort},
		{"wrong flags ahead of the first unit", []byte{1, 0, 0, 2, 'a'}, 0, []int{3}, "", 0, api.ErrForm},
		{"wrong flags in the midst", []byte{2, 0, 0, 'a', 'b', 'c'}, 0, []int{4}, "", 0, api.ErrForm},
		{"wrong flags right behind others", []byte{1, 0, 0, 0, 2, 'a'}, 0, []int{3, 4}, "", 0, api.ErrForm},
		{"wrong flags between others", []byte{1, 0, 0, 2, 0, 'a'}, 0, []int{3, 4}, "", 0, api.ErrForm},
		{"wrong flags at first, though none stand behind them", []byte{1, 0, 2, 0, 'a'}, 0, []int{3}, "", 0, api.ErrForm},
		{"wrong flags ahead of what lacks", []byte{9, 0, 0, 'a', 2}, 0, []int{4}, "", 0, api.ErrForm},
		{"what lacks ahead of wrong flags", []byte{9, 0, 0, 'a'}, 0, []int{5}, "", 0, api.ErrShort},
		{"a unit parted", []byte{1, 0, 1, 'a', 0}, 0, []int{4}, "", 0, api.ErrForm},
		{"a unit parted behind another", []byte{2, 0, 1, 'a', 0, 'b', 0}, 0, []int{6}, "", 0, api.ErrForm},
		{"a unit parted behind flags anew", []byte{1, 0, 0, 1, 'a', 0}, 0, []int{3, 5}, "", 0, api.ErrForm},
		{"a unit parted that is short", []byte{1, 0, 1, 'a'}, 0, []int{4}, "", 0, api.ErrShort},
		{"a unit parted ahead of what lacks", []byte{2, 0, 1, 'a', 0}, 0, []int{4}, "", 0, api.ErrForm},
		{"a half alone ahead of what lacks behind flags anew", []byte{2, 0, 1, 0, 0xDC, 1, 0xDC}, 0, []int{5}, "", 0, api.ErrShort},
		{"a half alone ahead of a unit parted", []byte{2, 0, 1, 0, 0xDC, 'a', 0}, 0, []int{6}, "", 0, api.ErrForm},
		{"a high half, then a narrow unit", []byte{2, 0, 1, 0x3D, 0xD8, 0, 'a'}, 0, []int{5}, "", 0, api.ErrForm},
		{"too many units, and a cut", []byte{0xE9, 3, 0, 0}, 0, []int{3}, "", 0, api.ErrLong},
	} {
		checkGet(t, c.name, le.Cursor{B: roomy(c.b...), At: c.at}, c.cuts, c.s, c.size, c.want)
	}
}

func TestP601GetCursorThatIsNone(t *testing.T) {
	for _, at := range []int{-1, -3, 5, 6, math.MinInt, math.MaxInt, math.MaxInt - 2} {
		from := le.Cursor{B: roomy(1, 0, 0, 'a'), At: at}
		checkGet(t, "a Cursor that is none", from, nil, "", 0, api.ErrArg)
		checkGet(t, "a Cursor that is none, and cuts", from, []int{-1, 0, 3, at}, "", 0, api.ErrArg)
	}
	checkGet(t, "a Cursor behind all", le.Cursor{B: []byte{1, 0, 0, 'a'}, At: 4}, nil, "", 0, api.ErrShort)
}

// TestP1GetOfCutsThatDoNotRise: nothing is promised of what is told, but that
// it is told, and changes nothing.
func TestP1GetOfCutsThatDoNotRise(t *testing.T) {
	b := []byte{3, 0, 0, 1, 0, 0, 1, 0, 0}
	for _, cuts := range [][]int{{8, 7, 6, 5, 4, 3}, {5, 3}, {3, -1, 4, math.MinInt}, {math.MaxInt, 3, 3}} {
		was := slices.Clone(cuts)
		s, next, e := str.Get(le.Cursor{B: b}, cuts)
		again, nextAgain, eAgain := str.Get(le.Cursor{B: b}, cuts)
		if !slices.Equal(cuts, was) || s != again || next.At != nextAgain.At || e != eAgain {
			t.Errorf("P1: Get with cuts %v: %q, %d, %v, then %q, %d, %v", was, s, next.At, e, again, nextAgain.At, eAgain)
		}
	}
}

// parted tells what Get is to tell of the text that b is, by the parts that
// the cuts make of b: each that is not the first begins with flags.
func parted(b []byte, cuts []int) (string, int, api.Errno) {
	switch {
	case len(b) < 2:
		return "", 0, api.ErrShort
	case int(b[1])<<8+int(b[0]) > 1000:
		return "", 0, api.ErrLong
	case len(b) < 3:
		return "", 0, api.ErrShort
	case b[2] > 1:
		return "", 0, api.ErrForm
	}
	lack := int(b[1])<<8 + int(b[0])
	var units []uint16
	at, wide := 3, b[2] == 1
	for lack > len(units) {
		if slices.Contains(cuts, at) {
			if at >= len(b) {
				return "", 0, api.ErrShort
			}
			if b[at] > 1 {
				return "", 0, api.ErrForm
			}
			wide = b[at] == 1
			at++
		}
		end := len(b) // of this part
		for _, cut := range cuts {
			if cut >= at && cut < end {
				end = cut
			}
		}
		part, e := partUnits(b[at:end], wide, lack-len(units), len(b)-end)
		if e != api.OK {
			return "", 0, e
		}
		units = append(units, part...)
		at += len(part)
		if wide {
			at += len(part)
		}
		if len(units) < lack && at == len(b) {
			return "", 0, api.ErrShort
		}
	}
	runes := utf16.Decode(units)
	if !slices.Equal(utf16.Encode(runes), units) {
		return "", 0, api.ErrForm // it made something else of a half alone
	}
	return string(runes), at, api.OK
}

// partUnits tells the units of a part behind its flags, no more than most; so
// many bytes stand behind the part.
func partUnits(part []byte, wide bool, most, behind int) ([]uint16, api.Errno) {
	var l []uint16
	if !wide {
		for _, x := range part[:min(most, len(part))] {
			l = append(l, uint16(x))
		}
		return l, api.OK
	}
	for ; len(l) < most && len(part) > 1; part = part[2:] {
		l = append(l, uint16(part[0])+uint16(part[1])*256)
	}
	switch {
	case len(l) == most || len(part) == 0:
		return l, api.OK
	case behind == 0:
		return nil, api.ErrShort
	}
	return nil, api.ErrForm
}

// rows calls f with each row of so many bytes of that alphabet.
func rows(alphabet []byte, size int, f func([]byte)) {
	row := make([]byte, size)
	var fill func(i int)
	fill = func(i int) {
		if i == size {
			f(row)
			return
		}
		for _, x := range alphabet {
			row[i] = x
			fill(i + 1)
		}
	}
	fill(0)
}

// TestP601GetOfAll holds what Get tells of each short row of bytes, with each
// choice of cuts, against what its parts are.
func TestP601GetOfAll(t *testing.T) {
	heads := [][]byte{{0, 0, 0}, {0, 0, 1}, {1, 0, 0}, {1, 0, 1}, {1, 0, 2}, {2, 0, 0}, {2, 0, 1}, {3, 0, 0}, {3, 0, 1}, {4, 0, 0}, {0xE9, 3, 0}}
	for size := range 6 {
		rows([]byte{0, 1, 2, 0xD8, 0xDC}, size, func(body []byte) {
			for _, head := range heads {
				b := slices.Concat(head, body)
				for set := range 1 << (size + 2) {
					var cuts []int
					for i := range size + 2 {
						if set>>i&1 == 1 {
							cuts = append(cuts, 2+i)
						}
					}
					s, at, want := parted(b, cuts)
					got, next, e := str.Get(le.Cursor{B: b}, cuts)
					if got != s || next.At != at || e != want {
						t.Fatalf("P601: Get of %x, cuts %v: %q, %d, %v, want %q, %d, %v", b, cuts, got, next.At, e, s, at, want)
					}
				}
			}
		})
	}
}

// TestP601GetOneBehindTheOther: each text begins where the one ahead ends.
func TestP601GetOneBehindTheOther(t *testing.T) {
	var b []byte
	for _, c := range texts() {
		b, _ = str.Put(b, c.s)
	}
	c := le.Cursor{B: b}
	for _, want := range texts() {
		s, next, e := str.Get(c, nil)
		if s != want.s || e != api.OK {
			t.Fatalf("P601: Get at %d: %.20q, %v, want %.20q", c.At, s, e, want.s)
		}
		c = next
	}
	if e := le.End(c); e != api.OK {
		t.Errorf("P601: behind all texts: %v", e)
	}
}

// TestP602ThereAndBack goes there and back with each rune that there is, alone
// and between others.
func TestP602ThereAndBack(t *testing.T) {
	check := func(s string) {
		b, e := str.Put([]byte{5}, s)
		if e != api.OK || len(b) != 1+str.Size(s) {
			t.Fatalf("P602: Put of %.20q: %d bytes, %v, Size %d", s, len(b), e, str.Size(s))
		}
		got, next, e := str.Get(le.Cursor{B: b, At: 1}, nil)
		if got != s || next.At != len(b) || e != api.OK {
			t.Fatalf("P602: Get of Put of %.20q: %.20q, %d, %v", s, got, next.At, e)
		}
	}
	for r := rune(0); r <= 0x10FFFF; r++ {
		if r >= 0xD800 && r < 0xE000 {
			continue
		}
		check(string(r))
		if r%97 == 0 {
			check("a" + string(r) + "\u20AC" + string(r))
		}
	}
	for _, c := range texts() {
		check(c.s)
	}
	for n := range 1001 {
		check(strings.Repeat("\u00E9", n))
		check(strings.Repeat("a", n/2) + strings.Repeat("\u0416", n-n/2))
	}
}
