package sst_test

import (
	"bytes"
	"encoding/binary"
	"fmt"
	"math"
	"slices"
	"strings"
	"testing"
	"unicode/utf16"

	"cashbook/api"
	"cashbook/le"
	"cashbook/rec"
	"cashbook/sst"
	"cashbook/str"
)

// pair is a rune of two units: D83D, DE00.
const pair = "\U0001F600"

// wide is a rune that does not go into one byte: AC, 20.
const wide = "\u20AC"

// most is how much Data a record may have.
const most = 65536

// told tells l so that no list and an empty one are alike, and no two others.
func told[T any](l []T) string {
	s := fmt.Sprintf("%d:", len(l))
	for _, x := range l {
		s += fmt.Sprintf(" %.40q", fmt.Sprint(x))
	}
	return s
}

func toldRec(r rec.Rec) string {
	return fmt.Sprintf("%x %x %v @%d", r.Type, r.Data, told(r.Cuts), r.At)
}

func isNone(r rec.Rec) bool { return r.Type == 0 && len(r.Data) == 0 && len(r.Cuts) == 0 && r.At == 0 }

func sameTable(a, b sst.Table) bool { return a.Uses == b.Uses && slices.Equal(a.Texts, b.Texts) }

// unlike tells so many texts, each of that many units of one byte at least,
// no two alike.
func unlike(count, size int) []string {
	var l []string
	for i := range count {
		s := fmt.Sprintf("%x", i)
		l = append(l, s+strings.Repeat("_", max(0, size-len(s))))
	}
	return l
}

// table tells the table of these texts, each used once.
func table(l ...string) sst.Table { return sst.Table{Texts: l, Uses: int64(len(l))} }

// roomy tells a list of these with spare room that has something in it, too.
func roomy[T any](spare T, l ...T) []T {
	out := append(make([]T, 0, len(l)+8), l...)
	for i := range out[len(out):cap(out)] {
		out[len(out):cap(out)][i] = spare
	}
	return out
}

// whole tells all that l has, its spare room too, in memory of its own.
func whole[T any](l []T) []T { return slices.Clone(l[:cap(l)]) }

// spoil writes over all that l has, its spare room too.
func spoil[T any](with T, l []T) {
	l = l[:cap(l)]
	for i := range l {
		l[i] = with
	}
}

func TestP701Names(t *testing.T) {
	if sst.SST != 0xFC || sst.EXTSST != 0xFF {
		t.Errorf("P701: SST %x, EXTSST %x", sst.SST, sst.EXTSST)
	}
}

func TestP701Build(t *testing.T) {
	for _, c := range []struct {
		l, texts []string
		at       []int
	}{
		{nil, nil, nil},
		{[]string{}, nil, nil},
		{[]string{""}, []string{""}, []int{0}},
		{[]string{"b", "a"}, []string{"b", "a"}, []int{0, 1}},
		{[]string{"a", "a", "a"}, []string{"a"}, []int{0, 0, 0}},
		{[]string{"b", "a", "b", "c", "a", ""}, []string{"b", "a", "c", ""}, []int{0, 1, 0, 2, 1, 3}},
		{[]string{"a", "A", "a ", "\x00", "\u00E9", "e\u0301", "e\u0301"}, []string{"a", "A", "a ", "\x00", "\u00E9", "e\u0301"}, []int{0, 1, 2, 3, 4, 5, 5}},
		{[]string{pair, wide, pair}, []string{pair, wide}, []int{0, 1, 0}},
	} {
		l := roomy("spare", c.l...)
		was := whole(l)
		got, at, e := sst.Build(l)
		if !sameTable(got, sst.Table{Texts: c.texts, Uses: int64(len(c.l))}) || !slices.Equal(at, c.at) || e != api.OK {
			t.Errorf("P701: Build(%q): %q, %d, %v, %v", c.l, got.Texts, got.Uses, at, e)
		}
		spoil("spoiled", got.Texts)
		spoil(-1, at)
		if !slices.Equal(whole(l), was) {
			t.Errorf("P2: Build(%q) changes or hands out what it was handed", c.l)
		}
		if again, _, _ := sst.Build(l); !slices.Equal(again.Texts, c.texts) {
			t.Errorf("P2: Build(%q) keeps what it answers", c.l)
		}
	}
}

func TestP701BuildAtTheBound(t *testing.T) {
	l := unlike(api.MaxTable, 0)
	l = append(append(l, l...), l[5], l[1023])
	got, at, e := sst.Build(l)
	if len(got.Texts) != 1024 || got.Uses != 2050 || e != api.OK {
		t.Fatalf("P701: Build of 1024 texts: %d, %d, %v", len(got.Texts), got.Uses, e)
	}
	if !slices.Equal(got.Texts, l[:1024]) || len(at) != len(l) {
		t.Fatalf("P701: Build of 1024 texts: other ones, or %d places", len(at))
	}
	for i, k := range at {
		if got.Texts[k] != l[i] {
			t.Fatalf("P701: Build: text %d, %q, stands at %d", i, l[i], k)
		}
	}
}

func TestP701BuildWrong(t *testing.T) {
	long := strings.Repeat("a", 1001)
	tooMany := unlike(1025, 0)
	for _, c := range []struct {
		name string
		l    []string
		want api.Errno
	}{
		{"no UTF-8", []string{"a", "\xFF"}, api.ErrForm},
		{"a half of a pair", []string{"\xED\xA0\x80"}, api.ErrForm},
		{"too many units", []string{"a", long}, api.ErrLong},
		{"too many units of pairs", []string{strings.Repeat(pair, 501)}, api.ErrLong},
		{"the first that is wrong, of units", []string{"", long, "\xFF"}, api.ErrLong},
		{"the first that is wrong, of form", []string{"", "\xFF", long}, api.ErrForm},
		{"1025 texts", tooMany, api.ErrLong},
		{"1025 texts, and others once more", append(slices.Clone(tooMany[:900]), tooMany...), api.ErrLong},
		{"a wrong one behind 1025", append(slices.Clone(tooMany), "\xFF"), api.ErrForm},
		{"a wrong one among 1025", slices.Insert(slices.Clone(tooMany), 700, "a\x80"), api.ErrForm},
	} {
		was := slices.Clone(c.l)
		got, at, e := sst.Build(c.l)
		if !sameTable(got, sst.Table{}) || len(at) != 0 || e != c.want {
			t.Errorf("P701: Build of %s: %d texts, %d, %v, %v", c.name, len(got.Texts), got.Uses, at, e)
		}
		if !slices.Equal(c.l, was) {
			t.Errorf("P2: Build of %s changes what it was handed", c.name)
		}
	}
	if _, _, e := sst.Build([]string{strings.Repeat("a", 1000), strings.Repeat(pair, 500)}); e != api.OK {
		t.Errorf("P701: Build of texts of 1000 units: %v", e)
	}
}

// wrongTable is one that Check does not take.
type wrongTable struct {
	name string
	t    sst.Table
	want api.Errno
}

func wrongTables() []wrongTable {
	long := strings.Repeat("a", 1001)
	tooMany := unlike(1025, 0)
	return []wrongTable{
		{"1025 texts", table(tooMany...), api.ErrLong},
		{"1025 texts that are all wrong", sst.Table{Texts: slices.Repeat([]string{"\xFF"}, 1025), Uses: -1}, api.ErrLong},
		{"no UTF-8", table("a", "\xFF"), api.ErrForm},
		{"too many units", table("a", long), api.ErrLong},
		{"the first that is wrong, of units", table("", long, "\xFF"), api.ErrLong},
		{"the first that is wrong, of form", table("", "\xFF", long), api.ErrForm},
		{"no UTF-8 behind one that is there twice", table("a", "a", "\xFF"), api.ErrForm},
		{"too many units behind one that is there twice", table("a", "a", long), api.ErrLong},
		{"no UTF-8, twice", table("\xFF", "\xFF"), api.ErrForm},
		{"no UTF-8, and too few Uses", sst.Table{Texts: []string{"\xFF"}}, api.ErrForm},
		{"one twice", table("a", "a"), api.ErrTwice},
		{"one twice, far from each other", table(append(unlike(1023, 0), "0")...), api.ErrTwice},
		{"the empty one twice", table("", "a", ""), api.ErrTwice},
		{"one twice, and too few Uses", sst.Table{Texts: []string{"a", "a"}, Uses: 1}, api.ErrTwice},
		{"one twice, and too many Uses", sst.Table{Texts: []string{"a", "a"}, Uses: 1 << 31}, api.ErrTwice},
		{"a Use that lacks", sst.Table{Texts: []string{"a", "b"}, Uses: 1}, api.ErrArg},
		{"no Uses", sst.Table{Texts: []string{"a"}}, api.ErrArg},
		{"Uses below 0", sst.Table{Uses: -1}, api.ErrArg},
		{"the least Uses", sst.Table{Texts: []string{"a"}, Uses: math.MinInt64}, api.ErrArg},
		{"Uses of 2^31", sst.Table{Texts: []string{"a"}, Uses: 1 << 31}, api.ErrArg},
		{"Uses of 2^31 of no texts", sst.Table{Uses: 1 << 31}, api.ErrArg},
		{"Uses of 2^32 and 1", sst.Table{Texts: []string{"a"}, Uses: 1<<32 + 1}, api.ErrArg},
		{"the greatest Uses", sst.Table{Texts: []string{"a"}, Uses: math.MaxInt64}, api.ErrArg},
	}
}

// tooLong is one that Check takes, though its SST would be too long.
func tooLong() sst.Table { return table(unlike(100, 1000)...) }

// rightTables tells tables that may be told in bytes.
func rightTables() []sst.Table {
	l := []sst.Table{
		{},
		{Uses: 1<<31 - 1},
		table("", "a"),
		table("sum", "a\u00E9", "a"+wide, pair),
		{Texts: []string{"a", "b"}, Uses: 1<<31 - 1},
		{Texts: []string{"a", "b", "c"}, Uses: 0x01020304},
		table(strings.Repeat("a", 1000), strings.Repeat(wide, 1000), strings.Repeat(pair, 500)),
		table(strings.Repeat("a", 998)+pair, "", "\x00"),
		table("\u00FF", "\u0100", "\uD7FF", "\uE000", "\uFFFD", "\uFFFF", "\U00010000", "\U0010FFFF"),
		table(unlike(1024, 0)...),
		table(unlike(1024, 30)...),
	}
	for size := range 9 {
		l = append(l, table(unlike(200, 2+size)...)) // heads at each place around a part's end
	}
	for n := range 20 {
		l = append(l, table(unlike(n, 0)...))
	}
	// Runs of each kind, so that a part ends at all that may be cut, with each rest.
	for ahead := 190; ahead < 226; ahead++ {
		for _, s := range []string{"b", wide, pair, "bb", "b" + wide, "b" + pair, "", strings.Repeat("b", 300), strings.Repeat(wide, 300), "b" + strings.Repeat(pair, 200)} {
			l = append(l, table(strings.Repeat("a", ahead), s, "c"+s, "d", strings.Repeat("e", 220)))
		}
	}
	return append(l, table(mixed(300)...))
}

// mixed tells so many texts of many lengths, narrow and wide, no two alike.
func mixed(count int) []string {
	var l []string
	n := uint32(1)
	for i := range count {
		s := fmt.Sprintf("%x.", i)
		n = n*1664525 + 1013904223
		for range n >> 16 % 90 {
			n = n*1664525 + 1013904223
			s += []string{"a", "\u00E9", "b", wide, pair, "c", "d"}[n>>20%[]uint32{2, 4, 7}[i%3]]
		}
		l = append(l, s)
	}
	return l
}

func TestP701Check(t *testing.T) {
	for _, c := range wrongTables() {
		if e := sst.Check(c.t); e != c.want {
			t.Errorf("P701: Check of %s: %v, want %v", c.name, e, c.want)
		}
	}
	for _, c := range append(rightTables(), tooLong()) {
		texts := roomy("spare", c.Texts...)
		was := whole(texts)
		if e := sst.Check(sst.Table{Texts: texts, Uses: c.Uses}); e != api.OK {
			t.Errorf("P701: Check(%.60q, %d): %v", c.Texts, c.Uses, e)
		}
		if !slices.Equal(whole(texts), was) {
			t.Errorf("P2: Check(%.60q) changes what it was handed", c.Texts)
		}
	}
}

// atom is what no Cut may part; anew: a byte of flags stands ahead of it where
// a Cut does.
type atom struct {
	b     []byte
	anew  bool
	flags byte
}

// size tells how many bytes the atom has, the first one of a part or not.
func (a atom) size(first bool) int {
	if first && a.anew {
		return len(a.b) + 1
	}
	return len(a.b)
}

// atoms tells what c's SST is of, and which atom each text begins with.
func atoms(c sst.Table) ([]atom, []int) {
	front := binary.LittleEndian.AppendUint32(nil, uint32(c.Uses))
	l := []atom{{b: binary.LittleEndian.AppendUint32(front, uint32(len(c.Texts)))}}
	var begins []int
	for _, s := range c.Texts {
		units := utf16.Encode([]rune(s))
		flags := byte(0)
		if strings.ContainsFunc(s, func(r rune) bool { return r > 255 }) {
			flags = 1
		}
		begins = append(begins, len(l))
		l = append(l, atom{b: []byte{byte(len(units)), byte(len(units) >> 8), flags}})
		for _, u := range units {
			l = append(l, atom{[]byte{byte(u), byte(u >> 8)}[:1+flags], true, flags})
		}
	}
	return l, begins
}

// laid tells c's SST, and where its texts begin, part by part: each takes as
// many atoms as fit.
func laid(c sst.Table) (rec.Rec, []int) {
	l, begins := atoms(c)
	r := rec.Rec{Type: 0xFC}
	where := make([]int, len(l))
	for i := 0; i < len(l); {
		var part []byte
		from := len(r.Data)
		if i > 0 {
			r.Cuts = append(r.Cuts, from)
			if l[i].anew {
				part = append(part, l[i].flags)
			}
		}
		for ; i < len(l) && len(part)+len(l[i].b) <= 224; i++ {
			where[i] = from + len(part)
			part = append(part, l[i].b...)
		}
		r.Data = append(r.Data, part...)
	}
	var places []int
	for _, i := range begins {
		places = append(places, where[i])
	}
	return r, places
}

// fewest tells how many Cuts c's SST must have, by all ways to cut it.
func fewest(c sst.Table) int {
	l, _ := atoms(c)
	need := make([]int, len(l)+1) // Cuts of what is from that atom on, which begins a part
	need[len(l)] = -1
	for i := len(l) - 1; i >= 0; i-- {
		need[i] = math.MaxInt
		size := 0
		for k := i; k < len(l); k++ {
			size += l[k].size(k == i && i > 0)
			if size > 224 {
				break
			}
			need[i] = min(need[i], 1+need[k+1])
		}
	}
	return need[0]
}

// indexed tells the EXTSST of texts at these places.
func indexed(places []int) rec.Rec {
	x := rec.Rec{Type: 0xFF, Data: []byte{8, 0}}
	for i, at := range places {
		if i%8 == 0 {
			x.Data = binary.LittleEndian.AppendUint32(x.Data, uint32(at))
		}
	}
	for at := 224; at < len(x.Data); at += 224 {
		x.Cuts = append(x.Cuts, at)
	}
	return x
}

// TestP701EncodeBytes holds Encode against bytes that are written out.
func TestP701EncodeBytes(t *testing.T) {
	a209 := bytes.Repeat([]byte{'a'}, 209) // with the 8 and a head 220 bytes
	head := func(texts byte) []byte { return []byte{texts, 0, 0, 0, texts, 0, 0, 0, 209, 0, 0} }
	s209 := string(a209)
	for _, c := range []struct {
		name   string
		t      sst.Table
		data   []byte
		cuts   []int
		places []byte
	}{
		{"nothing", sst.Table{}, make([]byte, 8), nil, nil},
		{"Uses alone", sst.Table{Uses: 0x7FFEFDFC}, []byte{0xFC, 0xFD, 0xFE, 0x7F, 0, 0, 0, 0}, nil, nil},
		{"the empty text", sst.Table{Texts: []string{""}, Uses: 5}, []byte{5, 0, 0, 0, 1, 0, 0, 0, 0, 0, 0}, nil, []byte{8}},
		{"two", table("sum", "a"+wide), []byte{2, 0, 0, 0, 2, 0, 0, 0, 3, 0, 0, 's', 'u', 'm', 2, 0, 1, 'a', 0, 0xAC, 0x20}, nil, []byte{8}},
		{"eight", table("1", "2", "3", "4", "5", "6", "7", "8"), slices.Concat([]byte{8, 0, 0, 0, 8, 0, 0, 0}, []byte("\x01\x00\x001\x01\x00\x002\x01\x00\x003\x01\x00\x004\x01\x00\x005\x01\x00\x006\x01\x00\x007\x01\x00\x008")), nil, []byte{8}},
		{"nine", table("1", "2", "3", "4", "5", "6", "7", "8", ""), slices.Concat([]byte{9, 0, 0, 0, 9, 0, 0, 0}, []byte("\x01\x00\x001\x01\x00\x002\x01\x00\x003\x01\x00\x004\x01\x00\x005\x01\x00\x006\x01\x00\x007\x01\x00\x008\x00\x00\x00")), nil, []byte{8, 40}},
		{"a unit that just fits", table(s209, "b"), slices.Concat(head(2), a209, []byte{1, 0, 0, 'b'}), nil, []byte{8}},
		{"a unit that does not", table(s209, "bc"), slices.Concat(head(2), a209, []byte{2, 0, 0, 'b', 0, 'c'}), []int{224}, []byte{8}},
		{"a wide unit ahead of which a byte stays", table(s209, wide), slices.Concat(head(2), a209, []byte{1, 0, 1, 1, 0xAC, 0x20}), []int{223}, []byte{8}},
		{"a head that just fits, without units", table(s209, "", "a"), slices.Concat(head(3), a209, []byte{0, 0, 0, 1, 0, 0, 'a'}), []int{223}, []byte{8}},
		{"a head that lacks two bytes", table(s209, "b", "c"), slices.Concat(head(3), a209, []byte{1, 0, 0, 'b', 1, 0, 0, 'c'}), []int{224}, []byte{8}},
		{"a cut right at a text's end", table(s209, "b", ""), slices.Concat(head(3), a209, []byte{1, 0, 0, 'b', 0, 0, 0}), []int{224}, []byte{8}},
		{"a cut ahead of the first unit", table(s209[1:], "x", "b"), slices.Concat([]byte{3, 0, 0, 0, 3, 0, 0, 0, 208, 0, 0}, a209[1:], []byte{1, 0, 0, 'x', 1, 0, 0, 'b'}), []int{223}, []byte{8}},
		{"a cut ahead of the first unit, flags anew", table(s209[1:]+"aa", "bc"), slices.Concat([]byte{2, 0, 0, 0, 2, 0, 0, 0, 210, 0, 0}, a209, []byte{'a', 2, 0, 0, 0, 'b', 'c'}), []int{224}, []byte{8}},
		{"a cut between the halves of a pair", table(s209[2:], pair), slices.Concat([]byte{2, 0, 0, 0, 2, 0, 0, 0, 207, 0, 0}, a209[2:], []byte{2, 0, 1, 0x3D, 0xD8, 1, 0, 0xDE}), []int{223}, []byte{8}},
		{"flags that fill a part", table(strings.Repeat("a", 213+223), "b"), slices.Concat([]byte{2, 0, 0, 0, 2, 0, 0, 0, 0xB4, 1, 0}, bytes.Repeat([]byte{'a'}, 213), []byte{0}, bytes.Repeat([]byte{'a'}, 223), []byte{1, 0, 0, 'b'}), []int{224, 448}, []byte{8}},
		{"flags and a unit more", table(strings.Repeat("a", 213+224)), slices.Concat([]byte{1, 0, 0, 0, 1, 0, 0, 0, 0xB5, 1, 0}, bytes.Repeat([]byte{'a'}, 213), []byte{0}, bytes.Repeat([]byte{'a'}, 223), []byte{0, 'a'}), []int{224, 448}, []byte{8}},
	} {
		x := []byte{8, 0}
		for _, at := range c.places {
			x = append(x, at, 0, 0, 0)
		}
		got, index, e := sst.Encode(c.t)
		want := toldRec(rec.Rec{Type: 0xFC, Data: c.data, Cuts: c.cuts})
		if toldRec(got) != want || e != api.OK {
			t.Errorf("P701: Encode of %s: %s, %v, want %s", c.name, toldRec(got), e, want)
		}
		if want := toldRec(rec.Rec{Type: 0xFF, Data: x}); toldRec(index) != want {
			t.Errorf("P701: Encode of %s: EXTSST %s, want %s", c.name, toldRec(index), want)
		}
	}
}

// TestP701Encode holds Encode against parts that are filled atom by atom, and
// Places against them.
func TestP701Encode(t *testing.T) {
	for _, c := range rightTables() {
		texts := roomy("spare", c.Texts...)
		was := whole(texts)
		given := sst.Table{Texts: texts, Uses: c.Uses}
		wantT, places := laid(c)
		wantX := indexed(places)
		got, x, e := sst.Encode(given)
		if toldRec(got) != toldRec(wantT) || toldRec(x) != toldRec(wantX) || e != api.OK {
			t.Fatalf("P701: Encode(%.60q): %.90s, %.90s, %v, want %.90s, %.90s", c.Texts, toldRec(got), toldRec(x), e, toldRec(wantT), toldRec(wantX))
		}
		if rec.Check(got) != api.OK || rec.Check(x) != api.OK {
			t.Fatalf("P701: Encode(%.60q): %v, %v", c.Texts, rec.Check(got), rec.Check(x))
		}
		if n := fewest(c); len(got.Cuts) != n {
			t.Fatalf("P701: Encode(%.60q): %d Cuts, want %d", c.Texts, len(got.Cuts), n)
		}
		where := sst.Places(given)
		if !slices.Equal(where, places) {
			t.Fatalf("P701: Places(%.60q): %v, want %v", c.Texts, where, places)
		}
		spoil(0xEE, got.Data)
		spoil(0xEE, x.Data)
		spoil(-1, got.Cuts)
		spoil(-1, where)
		if toldRec(x) == toldRec(wantX) || !slices.Equal(x.Cuts, wantX.Cuts) || !slices.Equal(whole(texts), was) {
			t.Fatalf("P2: Encode(%.60q) changes what it was handed, or its lists share memory", c.Texts)
		}
		again, anew, _ := sst.Encode(given)
		if toldRec(again) != toldRec(wantT) || toldRec(anew) != toldRec(wantX) || !slices.Equal(sst.Places(given), places) {
			t.Fatalf("P3: Encode(%.60q): another time another", c.Texts)
		}
	}
}

func TestP701EncodeLongIndex(t *testing.T) {
	for n, cuts := range map[int]string{440: "[]", 441: "[224]", 888: "[224]", 889: "[224 448]", 1024: "[224 448]"} {
		_, x, e := sst.Encode(table(unlike(n, 0)...))
		if fmt.Sprint(x.Cuts) != cuts || len(x.Data) != 2+(n+7)/8*4 || e != api.OK {
			t.Errorf("P701: EXTSST of %d texts: %d bytes, Cuts %v, %v", n, len(x.Data), x.Cuts, e)
		}
	}
}

// filling tells a table whose SST, if it were one, has just so many bytes.
func filling(size int) sst.Table {
	for lead := range 9 {
		l := append([]string{strings.Repeat("v", 100+lead)}, unlike(size/1010, 1000)...)
		r, _ := laid(table(append(l, "")...))
		for n := max(0, size-len(r.Data)-20); n <= 1000; n++ {
			c := table(append(l, strings.Repeat("w", n))...)
			r, _ = laid(c)
			if len(r.Data) == size {
				return c
			}
			if len(r.Data) > size {
				break // one more unit is two bytes where its flags stand ahead of it
			}
		}
	}
	panic("no such table")
}

func TestP701EncodeAtTheBound(t *testing.T) {
	for size := most - 2; size <= most+2; size++ {
		c := filling(size)
		got, x, e := sst.Encode(c)
		if size <= most {
			if len(got.Data) != size || len(x.Data) == 0 || e != api.OK {
				t.Errorf("P701: Encode to %d bytes: %d, %v", size, len(got.Data), e)
			}
			continue
		}
		if sst.Check(c) != api.OK || e != api.ErrLong || !isNone(got) || !isNone(x) {
			t.Errorf("P701: Encode to %d bytes: %d, %v", size, len(got.Data), e)
		}
	}
}

func TestP701EncodeWrong(t *testing.T) {
	for _, c := range append(wrongTables(), wrongTable{"too long an SST", tooLong(), api.ErrLong}) {
		got, x, e := sst.Encode(c.t)
		if !isNone(got) || !isNone(x) || e != c.want {
			t.Errorf("P701: Encode of %s: %.60s, %.60s, %v, want %v", c.name, toldRec(got), toldRec(x), e, c.want)
		}
		sst.Places(c.t) // P1: nothing else is promised of it (P8)
	}
}

// checkDecode holds what Decode answers against a table, or an error.
func checkDecode(t *testing.T, name string, r, x rec.Rec, want sst.Table, wantE api.Errno) {
	t.Helper()
	r.Data, r.Cuts = roomy(0xEE, r.Data...), roomy(9, r.Cuts...)
	x.Data, x.Cuts = roomy(0xEE, x.Data...), roomy(9, x.Cuts...)
	data, cuts, index, indexCuts := whole(r.Data), whole(r.Cuts), whole(x.Data), whole(x.Cuts)
	got, e := sst.Decode(r, x)
	if !sameTable(got, want) || e != wantE {
		t.Errorf("P701: Decode: %s: %.60q, %d, %v, want %.60q, %d, %v", name, got.Texts, got.Uses, e, want.Texts, want.Uses, wantE)
	}
	if !bytes.Equal(whole(r.Data), data) || !slices.Equal(whole(r.Cuts), cuts) || !bytes.Equal(whole(x.Data), index) || !slices.Equal(whole(x.Cuts), indexCuts) {
		t.Errorf("P2: Decode: %s: what is handed in is changed", name)
	}
	spoil(0x55, r.Data)
	if !slices.Equal(got.Texts, want.Texts) {
		t.Errorf("P2: Decode: %s: what is handed in is kept", name)
	}
}

// front tells the first eight bytes, and those behind them.
func front(uses, count uint32, behind ...byte) []byte {
	b := binary.LittleEndian.AppendUint32(nil, uses)
	return append(binary.LittleEndian.AppendUint32(b, count), behind...)
}

// ext tells the EXTSST of up to eight texts, or of none.
func ext(texts bool) rec.Rec {
	if !texts {
		return indexed(nil)
	}
	return indexed([]int{8})
}

func TestP702ThereAndBack(t *testing.T) {
	for _, c := range rightTables() {
		r, x, e := sst.Encode(c)
		if e != api.OK {
			t.Fatalf("P702: Encode(%.60q): %v", c.Texts, e)
		}
		checkDecode(t, "what Encode made", r, x, c, api.OK)
		b, e := rec.Write([]rec.Rec{r, x})
		l, _, f := rec.Read(b)
		if e != api.OK || f != api.OK || len(l) != 2 {
			t.Fatalf("P702: records of %.60q: %v, %v", c.Texts, e, f)
		}
		checkDecode(t, "what Encode made, in bytes", l[0], l[1], c, api.OK)
	}
	r, x, _ := sst.Encode(filling(most))
	checkDecode(t, "as long as may be", r, x, filling(most), api.OK)
}

func TestP702BuildThereAndBack(t *testing.T) {
	l := mixed(90)
	l = append(append(l, l[20:70]...), "", "")
	c, at, e := sst.Build(l)
	if e != api.OK || sst.Check(c) != api.OK {
		t.Fatalf("P701: Build: %v, %v", e, sst.Check(c))
	}
	r, x, _ := sst.Encode(c)
	got, e := sst.Decode(r, x)
	for i, k := range at {
		if e != api.OK || got.Texts[k] != l[i] || got.Uses != 142 {
			t.Fatalf("P702: text %d: %d, %v", i, k, e)
		}
	}
}

// ab is the SST of a, b, and one of no texts.
func ab() []byte { return front(2, 2, 1, 0, 0, 'a', 1, 0, 0, 'b') }

func TestP701DecodeWrong(t *testing.T) {
	for _, c := range []struct {
		name  string
		data  []byte
		cuts  []int
		texts bool
		want  api.Errno
	}{
		{"a Cut at 7", ab(), []int{7}, true, api.ErrForm},
		{"a Cut at 1", ab(), []int{1}, true, api.ErrForm},
		{"a Cut at 0", ab(), []int{0}, true, api.ErrForm},
		{"a Cut below 0", ab(), []int{-1, 12}, true, api.ErrForm},
		{"the least Cut", ab(), []int{math.MinInt}, true, api.ErrForm},
		{"a Cut below 8 behind another", ab(), []int{12, 4}, true, api.ErrForm},
		{"a Cut below 8, and it is short", ab()[:5], []int{4}, true, api.ErrForm},
		{"a Cut below 8, and it is long", front(2, 1025), []int{4}, true, api.ErrForm},

		{"nothing", nil, nil, false, api.ErrShort},
		{"seven bytes of no texts", front(0, 0)[:7], nil, false, api.ErrShort},
		{"three bytes", ab()[:3], nil, true, api.ErrShort},
		{"four bytes", ab()[:4], nil, true, api.ErrShort},
		{"seven bytes of many texts", front(0, 0x00FFFFFF)[:7], nil, false, api.ErrShort},

		{"1025 texts", front(2000, 1025), nil, true, api.ErrLong},
		{"2^32 - 1 texts", front(2000, math.MaxUint32), nil, true, api.ErrLong},
		{"2^32 - 1 texts, and a Cut within the first three bytes", front(2000, math.MaxUint32, 1, 0, 0, 'a'), []int{9}, true, api.ErrLong},
		{"1024 texts that lack", front(2000, 1024), nil, true, api.ErrShort},
		{"texts are as many as are told, not as there are Uses", front(1, 3, 1, 0, 0, 'a'), nil, true, api.ErrShort},

		{"a Cut behind the first byte of the first text", ab(), []int{9}, true, api.ErrForm},
		{"a Cut behind its second byte", ab(), []int{10}, true, api.ErrForm},
		{"a Cut behind the first byte of the second text", ab(), []int{13}, true, api.ErrForm},
		{"a Cut behind its second byte, others ahead", ab(), []int{8, 12, 14}, true, api.ErrForm},
		{"a Cut behind the first byte of an empty text", front(1, 1, 0, 0, 0), []int{9}, true, api.ErrForm},
		{"a Cut behind the second byte of an empty text", front(1, 1, 0, 0, 0), []int{10}, true, api.ErrForm},
		{"a Cut within the first three bytes that are short", front(1, 1, 1), []int{9}, true, api.ErrForm},
		{"a Cut within the first three bytes, behind what is there", front(1, 1), []int{9}, true, api.ErrForm},
		{"a Cut within the first three bytes of what has too many units", front(1, 1, 0xE9, 3, 0), []int{10}, true, api.ErrForm},
		{"a Cut within the first three bytes, then one that is short", front(2, 2, 0, 0, 0, 9), []int{10}, true, api.ErrForm},
		{"one that is too long, then a Cut within the first three bytes", front(2, 2, 0xE9, 3, 0, 0, 0, 0), []int{12}, true, api.ErrLong},
		{"one that is short, then a Cut where no text begins", front(2, 2, 9, 0, 0, 'a'), []int{13, 14}, true, api.ErrShort},

		{"no first text", front(1, 1), nil, true, api.ErrShort},
		{"a text without flags", front(1, 1, 1, 0), nil, true, api.ErrShort},
		{"a unit that lacks", front(1, 1, 2, 0, 0, 'a'), nil, true, api.ErrShort},
		{"a second text that lacks", front(2, 2, 1, 0, 0, 'a'), nil, true, api.ErrShort},
		{"flags that are none", front(1, 1, 1, 0, 2, 'a'), nil, true, api.ErrForm},
		{"flags that are none behind a Cut", front(1, 1, 2, 0, 0, 'a', 'b', 'c'), []int{12}, true, api.ErrForm},
		{"no flags behind a Cut ahead of the first unit", front(1, 1, 1, 0, 0, 'a'), []int{11}, true, api.ErrForm},
		{"a half of a pair alone", front(1, 1, 1, 0, 1, 0, 0xD8), nil, true, api.ErrForm},
		{"a unit that a Cut parts", front(1, 1, 1, 0, 1, 0xAC, 0x20), []int{12}, true, api.ErrForm},
		{"too many units", front(1, 1, slices.Concat([]byte{0xE9, 3, 0}, make([]byte, 1001))...), nil, true, api.ErrLong},

		{"a byte more", append(ab(), 0), nil, true, api.ErrLong},
		{"a text more", append(ab(), 1, 0, 0, 'c'), nil, true, api.ErrLong},
		{"a byte behind no texts", front(0, 0, 0), nil, false, api.ErrLong},
		{"a byte more behind a Cut", append(ab(), 0), []int{16}, true, api.ErrLong},
		{"a byte more, and one twice", front(2, 2, 0, 0, 0, 0, 0, 0, 0), nil, true, api.ErrLong},
		{"a byte more, and too few Uses", front(0, 1, 0, 0, 0, 0), nil, true, api.ErrLong},

		{"one twice", front(2, 2, 0, 0, 0, 0, 0, 0), nil, true, api.ErrTwice},
		{"one twice, told otherwise", front(2, 2, 1, 0, 0, 'a', 1, 0, 1, 'a', 0), nil, true, api.ErrTwice},
		{"one twice, and too few Uses", front(0, 2, 0, 0, 0, 0, 0, 0), nil, true, api.ErrTwice},
		{"one twice, and no EXTSST of it", front(2, 2, 0, 0, 0, 0, 0, 0), nil, false, api.ErrTwice},
		{"too few Uses", front(1, 2, ab()[8:]...), nil, true, api.ErrArg},
		{"2^31 Uses", front(1<<31, 2, ab()[8:]...), nil, true, api.ErrArg},
		{"2^31 Uses of no texts", front(1<<31, 0), nil, false, api.ErrArg},
		{"2^32 - 1 Uses", front(math.MaxUint32, 2, ab()[8:]...), nil, true, api.ErrArg},
		{"too few Uses, and no EXTSST of it", front(1, 2, ab()[8:]...), nil, false, api.ErrArg},

		{"no place of the first text", ab(), nil, false, api.ErrForm},
		{"a place of a text that is not there", front(0, 0), nil, true, api.ErrForm},
	} {
		r, x := rec.Rec{Type: sst.SST, Data: c.data, Cuts: c.cuts, At: 77}, ext(c.texts)
		checkDecode(t, c.name, r, x, sst.Table{}, c.want)
		for _, types := range [][2]int{{0xFD, 0xFF}, {0xFC, 0xFE}, {0xFF, 0xFC}, {0, 0}, {-1, 0xFF}, {0xFC, 0x3C}, {0x100FC, 0xFF}, {0xFC, 0x100FF}} {
			r.Type, x.Type = types[0], types[1]
			checkDecode(t, c.name+", and other Types", r, x, sst.Table{}, api.ErrArg)
		}
	}
	checkDecode(t, "a, b", rec.Rec{Type: sst.SST, Data: ab(), At: 5}, rec.Rec{Type: sst.EXTSST, Data: ext(true).Data, At: 9}, table("a", "b"), api.OK)
}

// uncut tells the SST of c's texts, which have no wide rune, without Cuts.
func uncut(c sst.Table) rec.Rec {
	b := front(uint32(c.Uses), uint32(len(c.Texts)))
	for _, s := range c.Texts {
		runes := []rune(s)
		b = append(b, byte(len(runes)), byte(len(runes)>>8), 0)
		for _, r := range runes {
			b = append(b, byte(r))
		}
	}
	return rec.Rec{Type: sst.SST, Data: b}
}

// TestP701DecodeOfWhatWouldBeTooLong: Encode needs Cuts, and flags behind them,
// that the Data may do without.
func TestP701DecodeOfWhatWouldBeTooLong(t *testing.T) {
	right, wrong := filling(most), filling(most+1)
	_, places := laid(right)
	x := indexed(places)
	checkDecode(t, "what Encode makes just as long as may be", uncut(right), x, right, api.OK)
	if r := uncut(wrong); len(r.Data) > most {
		t.Fatalf("without Cuts it is too long, too: %d", len(r.Data))
	}
	_, places = laid(wrong)
	checkDecode(t, "what Encode would make too long", uncut(wrong), indexed(places), sst.Table{}, api.ErrLong)
	checkDecode(t, "what Encode would make too long, and no EXTSST of it", uncut(wrong), x, sst.Table{}, api.ErrLong)
	wrong.Uses = 1
	checkDecode(t, "what Encode would make too long, and too few Uses", uncut(wrong), x, sst.Table{}, api.ErrArg)
}

// TestP701DecodeOtherIndexes: x is taken as Encode makes it, and in no other
// way.
func TestP701DecodeOtherIndexes(t *testing.T) {
	c := table(unlike(460, 4)...)
	r, x, _ := sst.Encode(c)
	if fmt.Sprint(x.Cuts) != "[224]" {
		t.Fatalf("P701: EXTSST's Cuts %v", x.Cuts)
	}
	checkDecode(t, "x elsewhere", rec.Rec{Type: sst.SST, Data: r.Data, Cuts: r.Cuts, At: 4}, rec.Rec{Type: sst.EXTSST, Data: x.Data, Cuts: x.Cuts, At: 9999}, c, api.OK)
	for i := range x.Data {
		for _, turn := range []byte{1, 0x80, 0xFF} {
			other := rec.Rec{Type: sst.EXTSST, Data: slices.Clone(x.Data), Cuts: x.Cuts}
			other.Data[i] ^= turn
			if got, e := sst.Decode(r, other); !sameTable(got, sst.Table{}) || e != api.ErrForm {
				t.Fatalf("P701: Decode with byte %d of x turned: %d texts, %v", i, len(got.Texts), e)
			}
		}
	}
	for _, cuts := range [][]int{nil, {2}, {223}, {225}, {2, 224}, {224, 230}, {224, 224}, {0, 224}, {-1}, {len(x.Data)}} {
		checkDecode(t, fmt.Sprint("x with Cuts ", cuts), r, rec.Rec{Type: sst.EXTSST, Data: x.Data, Cuts: cuts}, sst.Table{}, api.ErrForm)
	}
	for _, data := range [][]byte{nil, {8}, {8, 0}, x.Data[:len(x.Data)-1], x.Data[:len(x.Data)-4], append(slices.Clone(x.Data), 0), append(slices.Clone(x.Data), 0, 0, 0, 0)} {
		checkDecode(t, "x with other Data", r, rec.Rec{Type: sst.EXTSST, Data: data, Cuts: x.Cuts}, sst.Table{}, api.ErrForm)
	}
}

// TestP701DecodeOtherCuts: the places in x are those of Encode's Cuts,
// whichever the SST has.
func TestP701DecodeOtherCuts(t *testing.T) {
	c := table(strings.Repeat("a", 500), "b", "", "d", "e", "f", "g", "h", "a"+wide)
	ends := front(9, 9)
	var cuts []int
	for _, s := range c.Texts[:8] { // each text in a part of its own, and each unit of the last one
		cuts = append(cuts, len(ends))
		ends = append(append(ends, byte(len(s)), byte(len(s)>>8), 0), s...)
	}
	own := append(cuts, len(ends), len(ends)+3, len(ends)+6)
	data := append(slices.Clone(ends), 2, 0, 1, 1, 'a', 0, 1, 0xAC, 0x20)
	mixed := append(slices.Clone(ends), 2, 0, 0, 'a', 1, 0xAC, 0x20)

	r, x, e := sst.Encode(c)
	if e != api.OK || len(r.Cuts) != 2 {
		t.Fatalf("P701: Encode: %v, %v", r.Cuts, e)
	}
	checkDecode(t, "Cuts of its own", rec.Rec{Type: sst.SST, Data: data, Cuts: own}, x, c, api.OK)
	checkDecode(t, "Cuts of its own, flags that change", rec.Rec{Type: sst.SST, Data: mixed, Cuts: []int{8, len(ends) + 4}}, x, c, api.OK)
	checkDecode(t, "a Cut behind all", rec.Rec{Type: sst.SST, Data: data, Cuts: append(own, len(data), len(data)+1, math.MaxInt)}, x, c, api.OK)
	slices.Reverse(own)
	checkDecode(t, "Cuts of its own that fall", rec.Rec{Type: sst.SST, Data: data, Cuts: own}, x, c, api.OK)

	theirs := indexed([]int{8, 0, 0, 0, 0, 0, 0, 0, len(ends)})
	checkDecode(t, "places of Cuts of its own", rec.Rec{Type: sst.SST, Data: data, Cuts: own}, theirs, sst.Table{}, api.ErrForm)
}

// TestP701DecodeTakesWhatPutTellsOtherwise: x alone must be just what Encode
// makes.
func TestP701DecodeTakesWhatPutTellsOtherwise(t *testing.T) {
	c := table("ab", "")
	r := rec.Rec{Type: sst.SST, Data: front(2, 2, 2, 0, 1, 'a', 0, 'b', 0, 0, 0, 1)}
	checkDecode(t, "narrow texts in two bytes", r, ext(true), c, api.OK)
}

// decoded tells what Decode is to tell of an SST that says so, with the
// EXTSST that is told beside it.
func decoded(data []byte, cuts []int) (sst.Table, rec.Rec, api.Errno) {
	x := ext(data[4] > 0)
	got := sst.Table{Uses: int64(binary.LittleEndian.Uint32(data))}
	c := le.Cursor{B: data, At: 8}
	for range binary.LittleEndian.Uint32(data[4:]) {
		if slices.Contains(cuts, c.At+1) || slices.Contains(cuts, c.At+2) {
			return sst.Table{}, x, api.ErrForm
		}
		s, next, e := str.Get(c, cuts)
		if e != api.OK {
			return sst.Table{}, x, e
		}
		got.Texts, c = append(got.Texts, s), next
	}
	twice := slices.Sorted(slices.Values(got.Texts))
	switch {
	case c.At < len(data):
		return sst.Table{}, x, api.ErrLong
	case len(slices.Compact(twice)) < len(got.Texts):
		return sst.Table{}, x, api.ErrTwice
	case got.Uses < int64(len(got.Texts)):
		return sst.Table{}, x, api.ErrArg
	}
	return got, x, api.OK
}

// TestP701DecodeOfAll holds Decode against the chapter, line by line, for each
// short row of bytes with each choice of Cuts.
func TestP701DecodeOfAll(t *testing.T) {
	taken := 0
	for count := range 4 {
		for size := range 7 {
			for n := range 1 << (2 * size) {
				data := front(2, uint32(count))
				for i := range size {
					data = append(data, []byte{0, 1, 2, 'a'}[n>>(2*i)&3])
				}
				for set := range 1 << (size + 1) {
					var cuts []int
					for i := range size + 1 {
						if set>>i&1 == 1 {
							cuts = append(cuts, 8+i)
						}
					}
					want, x, wantE := decoded(data, cuts)
					got, e := sst.Decode(rec.Rec{Type: sst.SST, Data: data, Cuts: cuts}, x)
					if !sameTable(got, want) || e != wantE {
						t.Fatalf("P701: Decode of %x, Cuts %v: %q, %d, %v, want %q, %d, %v", data, cuts, got.Texts, got.Uses, e, want.Texts, want.Uses, wantE)
					}
					if e == api.OK {
						taken++
					}
				}
			}
		}
	}
	if taken < 500 {
		t.Errorf("%d only are taken: the rows tell little", taken)
	}
}

// TestP1DecodeOfTurnedBytes: whatever one byte is turned to, a table that
// Check takes is told, or an error.
func TestP1DecodeOfTurnedBytes(t *testing.T) {
	r, x, _ := sst.Encode(table(mixed(20)...))
	for i := range r.Data {
		for _, turn := range []byte{1, 2, 3, 4, 0x80, 0xFF} {
			other := rec.Rec{Type: sst.SST, Data: slices.Clone(r.Data), Cuts: r.Cuts}
			other.Data[i] ^= turn
			got, e := sst.Decode(other, x)
			if e != api.OK && !sameTable(got, sst.Table{}) || e == api.OK && sst.Check(got) != api.OK {
				t.Fatalf("P4: Decode with byte %d turned by %x: %d texts, %v", i, turn, len(got.Texts), e)
			}
		}
		short := rec.Rec{Type: sst.SST, Data: r.Data[:i], Cuts: r.Cuts}
		if got, e := sst.Decode(short, x); !sameTable(got, sst.Table{}) || e != api.ErrShort && e != api.ErrForm {
			t.Fatalf("P701: Decode of %d bytes: %d texts, %v", i, len(got.Texts), e)
		}
	}
}
