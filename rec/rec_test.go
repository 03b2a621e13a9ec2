package rec_test

import (
	"bytes"
	"fmt"
	"slices"
	"testing"

	"cashbook/api"
	"cashbook/rec"
)

// whole is how much Data a record may have, Continues and all.
const whole = api.MaxTokens * 16

func fill(b byte, n int) []byte { return bytes.Repeat([]byte{b}, n) }

// head tells the four bytes ahead of a record's data.
func head(kind, size int) []byte {
	return []byte{byte(kind), byte(kind >> 8), byte(size), byte(size >> 8)}
}

// part tells a record's bytes.
func part(kind int, data ...byte) []byte { return append(head(kind, len(data)), data...) }

func join(l ...[]byte) []byte { return bytes.Join(l, nil) }

// told tells l in words, so that no list and an empty one are alike.
func told(l []rec.Rec) string {
	s := ""
	for _, r := range l {
		s += fmt.Sprintf("(%x %x %v @%d)", r.Type, r.Data, r.Cuts, r.At)
	}
	return s
}

// longParts tells the bytes of a record of so much data in all, each part but
// the last as long as may be.
func longParts(kind, size int) []byte {
	var b []byte
	for size > api.MaxData {
		b = append(b, part(kind, fill(7, api.MaxData)...)...)
		kind, size = rec.Continue, size-api.MaxData
	}
	return append(b, part(kind, fill(7, size)...)...)
}

func TestP101ReadTells(t *testing.T) {
	for _, c := range []struct {
		name string
		b    []byte
		want string
	}{
		{"nothing", nil, ""},
		{"nothing, not nil", []byte{}, ""},
		{"no data", []byte{0x34, 0x12, 0, 0}, "(1234  [] @0)"},
		{"the lower byte first", []byte{0x01, 0xFF, 2, 0, 8, 9}, "(ff01 0809 [] @0)"},
		{"the least and the greatest type", join(part(0, 5), part(0xFFFF, 6)), "(0 05 [] @0)(ffff 06 [] @5)"},
		{"a type with the byte of Continue below", part(0x013C, 1), "(13c 01 [] @0)"},
		{"a type with the byte of Continue above", part(0x3C00, 1), "(3c00 01 [] @0)"},
		{"bytes of a Continue in the data", part(1, part(rec.Continue, 5)...), "(1 3c00010005 [] @0)"},
		{"one continued", join(part(1, 5), part(rec.Continue, 6)), "(1 0506 [1] @0)"},
		{"continued twice", join(part(1, 5, 6), part(rec.Continue, 7), part(rec.Continue, 8, 9)), "(1 0506070809 [2 3] @0)"},
		{"the second continued", join(part(1), part(2, 5), part(rec.Continue, 6), part(3)), "(1  [] @0)(2 0506 [1] @4)(3  [] @14)"},
		{"each continued", join(part(1, 5), part(rec.Continue, 6), part(1, 7), part(rec.Continue, 8)), "(1 0506 [1] @0)(1 0708 [1] @10)"},
	} {
		l, at, e := rec.Read(c.b)
		if told(l) != c.want || at != 0 || e != api.OK {
			t.Errorf("P101: %s: %s, %d, %v", c.name, told(l), at, e)
		}
	}
}

func TestP101ReadRefuses(t *testing.T) {
	one := part(1, 5)
	for _, c := range []struct {
		name string
		b    []byte
		at   int
		want api.Errno
	}{
		{"one byte", []byte{1}, 0, api.ErrShort},
		{"three bytes", []byte{1, 0, 0}, 0, api.ErrShort},
		{"three bytes of one too long", []byte{1, 0, 0xFF}, 0, api.ErrShort},
		{"three bytes of a Continue", []byte{0x3C, 0, 0}, 0, api.ErrShort},
		{"data lack", head(1, 1), 0, api.ErrShort},
		{"a byte of the data lacks", append(head(1, 224), fill(1, 223)...), 0, api.ErrShort},
		{"the second ends early", join(one, []byte{1, 0}), 5, api.ErrShort},
		{"the second's data end early", join(one, head(1, 2), []byte{9}), 5, api.ErrShort},
		{"the Continue ends early", join(one, head(rec.Continue, 2), []byte{9}), 5, api.ErrShort},
		{"too long", part(1, fill(1, 225)...), 0, api.ErrLong},
		{"too long by the higher byte", part(1, fill(1, 256)...), 0, api.ErrLong},
		{"too long and ended early", head(1, 225), 0, api.ErrLong},
		{"the longest of all and ended early", head(1, 0xFFFF), 0, api.ErrLong},
		{"the Continue is too long", join(one, head(rec.Continue, 225)), 5, api.ErrLong},
		{"a Continue first", part(rec.Continue, 1), 0, api.ErrOrder},
		{"a Continue without data first", part(rec.Continue), 0, api.ErrOrder},
		{"a Continue first, too long", head(rec.Continue, 225), 0, api.ErrLong},
		{"a Continue first, ended early", head(rec.Continue, 1), 0, api.ErrShort},
		{"a Continue without data", join(one, part(rec.Continue)), 5, api.ErrForm},
		{"a Continue behind no data", join(part(1), part(rec.Continue, 1)), 4, api.ErrForm},
		{"both without data", join(part(1), part(rec.Continue)), 4, api.ErrForm},
		{"the second Continue without data", join(one, part(rec.Continue, 1), part(rec.Continue)), 10, api.ErrForm},
		{"a Continue behind no data, too long", join(part(1), head(rec.Continue, 225)), 4, api.ErrLong},
		{"a Continue behind no data, ended early", join(part(1), head(rec.Continue, 1)), 4, api.ErrShort},
		{"the first by place", join(part(1), part(rec.Continue, 1), head(1, 225)), 4, api.ErrForm},
	} {
		l, at, e := rec.Read(c.b)
		if len(l) != 0 || at != c.at || e != c.want {
			t.Errorf("P101: %s: %s, %d, %v", c.name, told(l), at, e)
		}
	}
}

func TestP101ReadTakesWhatIsLongest(t *testing.T) {
	l, at, e := rec.Read(part(1, fill(3, api.MaxData)...))
	if e != api.OK || at != 0 || len(l) != 1 || len(l[0].Data) != api.MaxData || len(l[0].Cuts) != 0 {
		t.Errorf("P101: a part: %d, %v", at, e)
	}
	l, at, e = rec.Read(longParts(1, whole))
	if e != api.OK || at != 0 || len(l) != 1 || len(l[0].Data) != whole || len(l[0].Cuts) != 292 || l[0].Cuts[291] != 292*api.MaxData {
		t.Errorf("P101: a record: %d, %v", at, e)
	}
	// two records that are together longer than one may be
	long := longParts(1, whole)
	l, at, e = rec.Read(join(long, long))
	if e != api.OK || at != 0 || len(l) != 2 || l[1].At != len(long) || len(l[1].Data) != whole {
		t.Errorf("P101: two records: %d, %v", at, e)
	}
}

func TestP101ReadRefusesOneMore(t *testing.T) {
	long := longParts(1, whole)
	for _, c := range []struct {
		name string
		b    []byte
		at   int
		want api.Errno
	}{
		{"a byte more in a Continue", longParts(1, whole+1), len(long) - 4 - 128, api.ErrLong},
		{"a Continue more", join(long, part(rec.Continue, 1)), len(long), api.ErrLong},
		{"a Continue more, ended early", join(long, head(rec.Continue, 1)), len(long), api.ErrShort},
		{"a Continue more, without data", join(long, part(rec.Continue)), len(long), api.ErrForm},
		{"behind another record", join(part(9), long, part(rec.Continue, 1)), 4 + len(long), api.ErrLong},
	} {
		l, at, e := rec.Read(c.b)
		if len(l) != 0 || at != c.at || e != c.want {
			t.Errorf("P101: %s: %d records, %d, %v", c.name, len(l), at, e)
		}
	}
}

// piece is some bytes at which Read goes on from record to record.
type piece struct {
	b    []byte
	kind int
	bad  api.Errno
}

func pieces() []piece {
	return []piece{
		{b: part(1), kind: 1},
		{b: part(0x203, 4, 5), kind: 0x203},
		{b: part(2, fill(6, api.MaxData)...), kind: 2},
		{b: part(rec.Continue), kind: rec.Continue},
		{b: part(rec.Continue, 7), kind: rec.Continue},
		{b: part(rec.Continue, fill(8, api.MaxData)...), kind: rec.Continue},
		{b: []byte{0x3C, 0, 0}, bad: api.ErrShort},
		{b: head(0x3C, 9), bad: api.ErrShort},
		{b: head(3, 225), bad: api.ErrLong},
	}
}

// expect tells what Read is to tell of these pieces, of which only the last
// may be bad.
func expect(l []piece) (string, int, api.Errno) {
	var out []rec.Rec
	at := 0
	for _, p := range l {
		if p.bad != api.OK {
			return "", at, p.bad
		}
		data := p.b[4:]
		switch {
		case p.kind != rec.Continue:
			out = append(out, rec.Rec{Type: p.kind, Data: slices.Clone(data), At: at})
		case len(out) == 0:
			return "", at, api.ErrOrder
		case len(data) == 0 || len(out[len(out)-1].Data) == 0:
			return "", at, api.ErrForm
		default:
			r := &out[len(out)-1]
			r.Cuts = append(r.Cuts, len(r.Data))
			r.Data = append(r.Data, data...)
		}
		at += len(p.b)
	}
	return told(out), 0, api.OK
}

func TestP101ReadOfAllRows(t *testing.T) {
	var try func(l []piece, depth int)
	try = func(l []piece, depth int) {
		var b []byte
		for _, p := range l {
			b = append(b, p.b...)
		}
		want, wantAt, wantE := expect(l)
		got, at, e := rec.Read(b)
		if told(got) != want || at != wantAt || e != wantE {
			t.Fatalf("P101: %x: %d, %v, want %d, %v", b, at, e, wantAt, wantE)
		}
		if depth == 0 || len(l) > 0 && l[len(l)-1].bad != api.OK {
			return
		}
		for _, p := range pieces() {
			try(append(l[:len(l):len(l)], p), depth-1)
		}
	}
	try(nil, 4)
}

func TestP101Check(t *testing.T) {
	for _, c := range []struct {
		name string
		r    rec.Rec
		want api.Errno
	}{
		{"nothing", rec.Rec{}, api.OK},
		{"the greatest type", rec.Rec{Type: 0xFFFF}, api.OK},
		{"At is not looked at", rec.Rec{Type: 1, At: -7}, api.OK},
		{"a type below", rec.Rec{Type: -1}, api.ErrArg},
		{"a type above", rec.Rec{Type: 0x10000}, api.ErrArg},
		{"a Continue", rec.Rec{Type: rec.Continue}, api.ErrArg},
		{"beside Continue", rec.Rec{Type: rec.Continue + 1}, api.OK},
		{"a Continue above 16 bits", rec.Rec{Type: 0x1003C}, api.ErrArg},
		{"too long a part", rec.Rec{Data: fill(1, 225)}, api.ErrLong},
		{"the longest part", rec.Rec{Data: fill(1, 224)}, api.OK},
		{"too long ahead", rec.Rec{Data: fill(1, 300), Cuts: []int{225}}, api.ErrLong},
		{"the longest ahead", rec.Rec{Data: fill(1, 300), Cuts: []int{224}}, api.OK},
		{"too long behind", rec.Rec{Data: fill(1, 300), Cuts: []int{75}}, api.ErrLong},
		{"the longest behind", rec.Rec{Data: fill(1, 300), Cuts: []int{76}}, api.OK},
		{"too long between", rec.Rec{Data: fill(1, 300), Cuts: []int{10, 235}}, api.ErrLong},
		{"the longest between", rec.Rec{Data: fill(1, 300), Cuts: []int{10, 234}}, api.OK},
		{"a cut at the beginning", rec.Rec{Data: fill(1, 3), Cuts: []int{0}}, api.ErrOrder},
		{"a cut at 1", rec.Rec{Data: fill(1, 3), Cuts: []int{1}}, api.OK},
		{"a cut ahead of the last", rec.Rec{Data: fill(1, 3), Cuts: []int{2}}, api.OK},
		{"a cut at the end", rec.Rec{Data: fill(1, 3), Cuts: []int{3}}, api.ErrOrder},
		{"a cut past the end", rec.Rec{Data: fill(1, 3), Cuts: []int{1 << 62}}, api.ErrOrder},
		{"a cut below 0", rec.Rec{Data: fill(1, 3), Cuts: []int{-1 << 63}}, api.ErrOrder},
		{"a cut of nothing", rec.Rec{Cuts: []int{0}}, api.ErrOrder},
		{"a cut of one byte", rec.Rec{Data: fill(1, 1), Cuts: []int{1}}, api.ErrOrder},
		{"cuts alike", rec.Rec{Data: fill(1, 3), Cuts: []int{1, 1}}, api.ErrOrder},
		{"cuts that fall", rec.Rec{Data: fill(1, 4), Cuts: []int{2, 1}}, api.ErrOrder},
		{"cuts all over", rec.Rec{Data: fill(1, 4), Cuts: []int{1, 2, 3}}, api.OK},
		{"the type ahead of the data", rec.Rec{Type: -1, Data: fill(1, whole+1), Cuts: []int{0}}, api.ErrArg},
		{"the data ahead of the cuts", rec.Rec{Data: fill(1, whole+1), Cuts: []int{0}}, api.ErrLong},
		{"the order ahead of the parts", rec.Rec{Data: fill(1, 900), Cuts: []int{400, 300}}, api.ErrOrder},
		{"the last cut's order ahead of the first part", rec.Rec{Data: fill(1, 300), Cuts: []int{230, 300}}, api.ErrOrder},
		{"the longest of all", rec.Rec{Data: fill(1, whole), Cuts: steps(whole)}, api.OK},
		{"one byte above that", rec.Rec{Data: fill(1, whole+1), Cuts: steps(whole + 1)}, api.ErrLong},
	} {
		if e := rec.Check(c.r); e != c.want {
			t.Errorf("P101: %s: %v", c.name, e)
		}
		b, e := rec.Write([]rec.Rec{{Type: 1, Data: []byte{1}}, c.r, {Type: -1}})
		want := c.want
		if want == api.OK {
			want = api.ErrArg // of the one behind
		}
		if len(b) != 0 || e != want {
			t.Errorf("P101: Write: %s: %d bytes, %v", c.name, len(b), e)
		}
	}
}

// steps tells the places in so many bytes that are each MaxData behind the one
// ahead.
func steps(size int) []int {
	var l []int
	for i := 1; i*api.MaxData < size; i++ {
		l = append(l, i*api.MaxData)
	}
	return l
}

func TestP101Write(t *testing.T) {
	for _, c := range []struct {
		name string
		l    []rec.Rec
		want []byte
	}{
		{"nothing", nil, nil},
		{"no data", []rec.Rec{{Type: 0x1234}}, []byte{0x34, 0x12, 0, 0}},
		{"the greatest type", []rec.Rec{{Type: 0xFFFF, Data: []byte{9}}}, []byte{0xFF, 0xFF, 1, 0, 9}},
		{"At is not looked at", []rec.Rec{{Type: 1, At: 77}, {Type: 2, At: -3}}, []byte{1, 0, 0, 0, 2, 0, 0, 0}},
		{"parts", []rec.Rec{{Type: 0x102, Data: []byte{5, 6, 7, 8}, Cuts: []int{2, 3}}, {Type: 3, Data: []byte{9}}}, join(part(0x102, 5, 6), part(rec.Continue, 7), part(rec.Continue, 8), part(3, 9))},
		{"the longest", []rec.Rec{{Type: 4, Data: fill(7, whole), Cuts: steps(whole)}}, longParts(4, whole)},
	} {
		b, e := rec.Write(c.l)
		if !bytes.Equal(b, c.want) || e != api.OK {
			t.Errorf("P101: %s: %x, %v", c.name, b, e)
		}
	}
}

func TestP101WriteTellsTheFirstError(t *testing.T) {
	long := rec.Rec{Type: 1, Data: fill(1, 225)}
	order := rec.Rec{Type: 1, Data: fill(1, 9), Cuts: []int{9}}
	arg := rec.Rec{Type: rec.Continue}
	for i, c := range []struct {
		l    []rec.Rec
		want api.Errno
	}{
		{[]rec.Rec{long, order, arg}, api.ErrLong},
		{[]rec.Rec{order, arg, long}, api.ErrOrder},
		{[]rec.Rec{arg, long, order}, api.ErrArg},
		{[]rec.Rec{{}, {}, order, arg}, api.ErrOrder},
	} {
		if b, e := rec.Write(c.l); len(b) != 0 || e != c.want {
			t.Errorf("P101: %d: %x, %v", i, b, e)
		}
	}
}

func TestP101Cut(t *testing.T) {
	for _, n := range []int{0, 1, 223, 224, 225, 447, 448, 449, 672, 673, whole - 1, whole} {
		for _, old := range [][]int{nil, {1, 2}, steps(n)} {
			data := make([]byte, n)
			for i := range data {
				data[i] = byte(i % 251)
			}
			r := rec.Cut(rec.Rec{Type: 0x207, Data: data, Cuts: old})
			if r.Type != 0x207 || !bytes.Equal(r.Data, data) || !slices.Equal(r.Cuts, steps(n)) {
				t.Errorf("P101: %d bytes: %x, %d bytes, %v", n, r.Type, len(r.Data), r.Cuts)
			}
			if e := rec.Check(r); e != api.OK {
				t.Errorf("P101: %d bytes: %v", n, e)
			}
		}
	}
}

func TestP101Same(t *testing.T) {
	x := rec.Rec{Type: 1, Data: []byte{5, 6, 7}, Cuts: []int{1, 2}, At: 3}
	for i, c := range []struct {
		a, b rec.Rec
		want bool
	}{
		{x, x, true},
		{x, rec.Rec{Type: 1, Data: []byte{5, 6, 7}, Cuts: []int{1, 2}, At: 9}, true},
		{x, rec.Rec{Type: 2, Data: []byte{5, 6, 7}, Cuts: []int{1, 2}, At: 3}, false},
		{x, rec.Rec{Type: 1, Data: []byte{5, 6, 8}, Cuts: []int{1, 2}, At: 3}, false},
		{x, rec.Rec{Type: 1, Data: []byte{5, 6, 7, 0}, Cuts: []int{1, 2}, At: 3}, false},
		{x, rec.Rec{Type: 1, Data: []byte{5, 6, 7}, Cuts: []int{1}, At: 3}, false},
		{x, rec.Rec{Type: 1, Data: []byte{5, 6, 7}, Cuts: []int{2}, At: 3}, false},
		{x, rec.Rec{Type: 1, Data: []byte{5, 6, 7}, At: 3}, false},
		{rec.Rec{}, rec.Rec{Data: []byte{}, Cuts: []int{}}, true},
		{rec.Rec{}, rec.Rec{Data: []byte{0}}, false},
	} {
		if rec.Same(c.a, c.b) != c.want || rec.Same(c.b, c.a) != c.want {
			t.Errorf("P101: %d", i)
		}
	}
}

// spoil writes over all that a list has, its spare room too.
func spoil(l []byte) {
	l = l[:cap(l)]
	for i := range l {
		l[i] = ^l[i]
	}
}

func spoilCuts(l []int) {
	l = l[:cap(l)]
	for i := range l {
		l[i] = ^l[i]
	}
}

func TestP101KeepsNothing(t *testing.T) {
	b := make([]byte, 0, 64)
	b = append(b, join(part(1, 5), part(rec.Continue, 6), part(2, 7), part(rec.Continue, 8), part(3), part(4, 9))...)
	before := slices.Clone(b[:cap(b)])
	for i := range 4 {
		l, _, _ := rec.Read(b)
		others, _, _ := rec.Read(b)
		others[i] = rec.Rec{}
		spoil(l[i].Data)
		spoilCuts(l[i].Cuts)
		l[i] = rec.Rec{}
		if told(l) != told(others) {
			t.Errorf("P101: Read: record %d shares with another: %s", i, told(l))
		}
		if !bytes.Equal(b[:cap(b)], before) {
			t.Fatalf("P101: Read: record %d shares with the bytes", i)
		}
	}
	for _, size := range []int{5, 300} {
		r := rec.Rec{Type: 1, Data: make([]byte, size, 2*size), Cuts: append(make([]int, 0, 9), 1, 3, 200)}
		if size == 5 {
			r.Cuts = r.Cuts[:2]
		}
		data, cuts := slices.Clone(r.Data[:cap(r.Data)]), slices.Clone(r.Cuts[:cap(r.Cuts)])
		c := rec.Cut(r)
		spoil(c.Data)
		spoilCuts(c.Cuts)
		w, _ := rec.Write([]rec.Rec{r})
		spoil(w)
		rec.Check(r)
		rec.Same(r, r)
		if !slices.Equal(data, r.Data[:cap(r.Data)]) || !slices.Equal(cuts, r.Cuts[:cap(r.Cuts)]) {
			t.Errorf("P101: Cut or Write shares with its record of %d bytes, or changes it", size)
		}
	}
}

// TestP101TakesWhateverComes: calls of what may not be end, and change nothing.
func TestP101TakesWhateverComes(t *testing.T) {
	for _, r := range []rec.Rec{
		{Type: -1, Data: fill(1, whole+225), Cuts: []int{9, 3, -1}, At: -1},
		{Type: rec.Continue, Cuts: []int{-1 << 63, 1<<63 - 1}},
		{Type: 1 << 62, Data: fill(1, 9), Cuts: []int{99, 99}},
	} {
		data, cuts := slices.Clone(r.Data), slices.Clone(r.Cuts)
		rec.Check(r)
		rec.Cut(r)
		rec.Same(r, r)
		if !slices.Equal(data, r.Data) || !slices.Equal(cuts, r.Cuts) {
			t.Error("P101: a record that may not be was changed")
		}
	}
}

func TestP102WriteThenRead(t *testing.T) {
	lists := [][]rec.Rec{
		nil,
		{{}},
		{{Type: 0xFFFF}, {Type: 0}, {Type: 1, Data: []byte{0}}},
		{{Type: 1, Data: []byte{1, 2}, Cuts: []int{1}, At: 50}, {Type: 1, Data: []byte{1, 2}}},
		{{Type: 1, Data: part(rec.Continue, 5)}, {Type: 2, Data: part(rec.Continue), Cuts: []int{1, 2, 3}}},
		{{Type: 9, Data: fill(1, whole), Cuts: steps(whole)}, {Type: 9, Data: fill(2, 224)}},
		{rec.Cut(rec.Rec{Type: 8, Data: fill(3, 1000)})},
	}
	for i, l := range lists {
		b, e := rec.Write(l)
		if e != api.OK {
			t.Errorf("P102: %d: %v", i, e)
		}
		got, at, e := rec.Read(b)
		if at != 0 || e != api.OK || !slices.EqualFunc(got, l, rec.Same) {
			t.Errorf("P102: %d: %s, %d, %v", i, told(got), at, e)
		}
	}
}

// TestP102ReadThenWrite goes through all short rows of a few bytes.
func TestP102ReadThenWrite(t *testing.T) {
	for size := range 11 {
		b := make([]byte, size)
		for more := true; more; more = turn(b) {
			l, at, e := rec.Read(b)
			if at < 0 || at > size || e != api.OK && len(l) != 0 {
				t.Fatalf("P101: %x: %d records, %d, %v", b, len(l), at, e)
			}
			if e != api.OK {
				continue
			}
			back, f := rec.Write(l)
			if at != 0 || f != api.OK || !bytes.Equal(back, b) {
				t.Fatalf("P102: %x: %x, %d, %v", b, back, at, f)
			}
		}
	}
}

// turn makes b the next row of 0, 1 and Continue (false: it was the last).
func turn(b []byte) bool {
	for i := range b {
		switch b[i] {
		case 0:
			b[i] = 1
			return true
		case 1:
			b[i] = rec.Continue
			return true
		}
		b[i] = 0
	}
	return false
}
