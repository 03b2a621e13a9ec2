package sub_test

import (
	"bytes"
	"fmt"
	"slices"
	"testing"

	"cashbook/api"
	"cashbook/rec"
	"cashbook/sub"
)

// most is how many streams there may be.
const most = api.MaxSheets + 1

// toldRecs tells l in words, so that no list and an empty one are alike.
func toldRecs(l []rec.Rec) string {
	s := ""
	for _, r := range l {
		s += fmt.Sprintf("(%x %x %v @%d)", r.Type, r.Data, r.Cuts, r.At)
	}
	return s
}

func told(l []sub.Stream) string {
	s := ""
	for _, x := range l {
		s += fmt.Sprintf("[%x %s]", x.Kind, toldRecs(x.Recs))
	}
	return s
}

func bof(data ...byte) rec.Rec { return rec.Rec{Type: sub.BOF, Data: data} }

func eof() rec.Rec { return rec.Rec{Type: sub.EOF} }

func one(kind int, data ...byte) rec.Rec { return rec.Rec{Type: kind, Data: data} }

// row tells these records, each at a place of its own: 100, 107, 114 ..
func row(l ...rec.Rec) []rec.Rec {
	l = slices.Clone(l)
	for i := range l {
		l[i].At = at(i)
	}
	return l
}

func at(i int) int { return 100 + 7*i }

// empty tells n streams without records.
func empty(n int) []rec.Rec {
	var l []rec.Rec
	for i := range n {
		l = append(l, bof(byte(i), 0), eof())
	}
	return l
}

func TestP201SplitTells(t *testing.T) {
	for _, c := range []struct {
		name string
		l    []rec.Rec
		want string
	}{
		{"nothing", nil, ""},
		{"nothing, not nil", []rec.Rec{}, ""},
		{"no records", row(bof(0x10, 0), eof()), "[10 ]"},
		{"the lower byte first", row(bof(0x05, 0xFE), eof()), "[fe05 ]"},
		{"the least and the greatest Kind", row(bof(0, 0), eof(), bof(0xFF, 0xFF), eof()), "[0 ][ffff ]"},
		{"empty lists", row(rec.Rec{Type: sub.BOF, Data: []byte{1, 0}, Cuts: []int{}}, rec.Rec{Type: sub.EOF, Data: []byte{}, Cuts: []int{}}), "[1 ]"},
		{"a record", row(bof(5, 0), one(1, 7, 8), eof()), "[5 (1 0708 [] @107)]"},
		{"a record that is continued", row(bof(5, 0), rec.Rec{Type: 2, Data: []byte{1, 2, 3}, Cuts: []int{1, 2}}, eof()), "[5 (2 010203 [1 2] @107)]"},
		{"one behind the other", row(bof(5, 0), one(1), one(2, 3), eof(), bof(0x10, 0), one(4), eof()), "[5 (1  [] @107)(2 03 [] @114)][10 (4  [] @135)]"},
		{"types alike by a byte", row(bof(5, 0), one(0x808), one(0x80A), one(9), one(0x0B), one(0x10A), one(0x908), eof()), "[5 (808  [] @107)(80a  [] @114)(9  [] @121)(b  [] @128)(10a  [] @135)(908  [] @142)]"},
		{"types alike by 16 bits", row(bof(5, 0), one(0x10809), one(0x1000A), one(-0x10000+sub.EOF), eof()), "[5 (10809  [] @107)(1000a  [] @114)(-fff6  [] @121)]"},
		{"no records that may be written", row(bof(5, 0), one(rec.Continue), rec.Rec{Type: -1, Data: []byte{1}, Cuts: []int{9, 3}}, eof()), "[5 (3c  [] @107)(-1 01 [9 3] @114)]"},
		{"bytes of a BOF and of an EOF in the data", row(bof(0x0A, 0), one(1, 9, 8, 2, 0, 5, 0, 0x0A, 0, 0, 0), eof()), "[a (1 0908020005000a000000 [] @107)]"},
		{"a place below 0", []rec.Rec{{Type: sub.BOF, Data: []byte{1, 0}, At: -9}, {Type: 3, At: -8}, {Type: sub.EOF, At: -7}}, "[1 (3  [] @-8)]"},
	} {
		l, place, e := sub.Split(c.l)
		if told(l) != c.want || place != 0 || e != api.OK {
			t.Errorf("P201: %s: %s, %d, %v", c.name, told(l), place, e)
		}
	}
}

func TestP201SplitRefuses(t *testing.T) {
	cutBOF := rec.Rec{Type: sub.BOF, Data: []byte{5, 0}, Cuts: []int{1}}
	for _, c := range []struct {
		name string
		l    []rec.Rec
		at   int
		want api.Errno
	}{
		{"a record outside, first", row(one(1), bof(5, 0), eof()), at(0), api.ErrOrder},
		{"a record outside, last", row(bof(5, 0), eof(), one(1)), at(2), api.ErrOrder},
		{"a record outside, between", row(bof(5, 0), eof(), one(1), bof(5, 0), eof()), at(2), api.ErrOrder},
		{"a record alone", row(one(0)), at(0), api.ErrOrder},
		{"a BOF's data in another record", row(one(0x808, 5, 0), eof()), at(0), api.ErrOrder},
		{"an EOF outside, first", row(eof(), bof(5, 0), eof()), at(0), api.ErrOrder},
		{"an EOF outside, behind", row(bof(5, 0), eof(), eof()), at(2), api.ErrOrder},
		{"an EOF with data outside", row(one(sub.EOF, 1)), at(0), api.ErrOrder},
		{"a BOF inside", row(bof(5, 0), bof(5, 0), eof(), eof()), at(1), api.ErrOrder},
		{"a BOF inside, behind a record", row(bof(5, 0), one(1), bof(5, 0), eof()), at(2), api.ErrOrder},
		{"a BOF without data inside", row(bof(5, 0), bof(), eof()), at(1), api.ErrOrder},
		{"a BOF inside what lacks an EOF", row(bof(5, 0), one(1), bof(5, 0)), at(2), api.ErrOrder},
		{"a BOF without data", row(bof(), eof()), at(0), api.ErrForm},
		{"a BOF of one byte", row(bof(5), eof()), at(0), api.ErrForm},
		{"a BOF of three bytes", row(bof(5, 0, 0), eof()), at(0), api.ErrForm},
		{"a BOF that is cut", row(cutBOF, eof()), at(0), api.ErrForm},
		{"a BOF with cuts that may not be", row(rec.Rec{Type: sub.BOF, Data: []byte{5, 0}, Cuts: []int{-1}}, eof()), at(0), api.ErrForm},
		{"the second BOF", row(bof(5, 0), one(1), eof(), bof(5)), at(3), api.ErrForm},
		{"a BOF without data that lacks an EOF", row(bof()), at(0), api.ErrForm},
		{"an EOF with data", row(bof(5, 0), one(sub.EOF, 0)), at(1), api.ErrForm},
		{"an EOF with cuts alone", row(bof(5, 0), rec.Rec{Type: sub.EOF, Cuts: []int{0}}), at(1), api.ErrForm},
		{"an EOF that is cut", row(bof(5, 0), rec.Rec{Type: sub.EOF, Data: []byte{1, 2}, Cuts: []int{1}}), at(1), api.ErrForm},
		{"an EOF with data, then one without", row(bof(5, 0), one(sub.EOF, 0), eof()), at(1), api.ErrForm},
		{"the second EOF", row(bof(5, 0), eof(), bof(5, 0), one(1), one(sub.EOF, 0)), at(4), api.ErrForm},
		{"a BOF alone", row(bof(5, 0)), at(0), api.ErrShort},
		{"no EOF", row(bof(5, 0), one(1), one(2)), at(0), api.ErrShort},
		{"no EOF of the second", row(bof(5, 0), eof(), bof(5, 0), one(1), one(2)), at(2), api.ErrShort},
		{"an EOF by 16 bits alone", row(bof(5, 0), one(0x1000A)), at(0), api.ErrShort},
		{"a BOF by 16 bits alone", row(one(0x10809, 5, 0), eof()), at(0), api.ErrOrder},
		{"the first by place", row(bof(5), one(1), bof(5, 0), eof(), eof()), at(0), api.ErrForm},
		{"the first by place, behind a stream", row(bof(5, 0), eof(), one(1), bof(5), eof(), eof()), at(2), api.ErrOrder},
	} {
		l, place, e := sub.Split(c.l)
		if len(l) != 0 || place != c.at || e != c.want {
			t.Errorf("P201: %s: %s, %d, %v", c.name, told(l), place, e)
		}
	}
}

func TestP201SplitTellsThePlaceAsItIs(t *testing.T) {
	for i, c := range []struct {
		l    []rec.Rec
		at   int
		want api.Errno
	}{
		{[]rec.Rec{{Type: 1, At: -5}}, -5, api.ErrOrder},
		{[]rec.Rec{{Type: sub.BOF, Data: []byte{1, 0}, At: -6}, {Type: 1, At: 3}}, -6, api.ErrShort},
		{[]rec.Rec{{Type: sub.BOF, Data: []byte{1, 0}}, {Type: sub.EOF, Data: []byte{1}}}, 0, api.ErrForm},
		{[]rec.Rec{{Type: sub.BOF, Data: []byte{1, 0}, At: 9}, {Type: sub.BOF, At: 2}}, 2, api.ErrOrder},
	} {
		l, place, e := sub.Split(c.l)
		if len(l) != 0 || place != c.at || e != c.want {
			t.Errorf("P201: %d: %s, %d, %v", i, told(l), place, e)
		}
	}
}

func TestP201SplitOfTheMostStreams(t *testing.T) {
	l, place, e := sub.Split(row(empty(most)...))
	if want := "[0 ][1 ][2 ][3 ][4 ][5 ][6 ][7 ][8 ]"; told(l) != want || place != 0 || e != api.OK {
		t.Errorf("P201: %s, %d, %v", told(l), place, e)
	}
	full := at(2 * most)
	for _, c := range []struct {
		name string
		l    []rec.Rec
		at   int
		want api.Errno
	}{
		{"one more", empty(most + 1), full, api.ErrLong},
		{"two more", empty(most + 2), full, api.ErrLong},
		{"one more without an EOF", append(empty(most), bof(5, 0)), full, api.ErrLong},
		{"one more without data", append(empty(most), bof()), full, api.ErrLong},
		{"one more that is cut", append(empty(most), rec.Rec{Type: sub.BOF, Data: []byte{5, 0}, Cuts: []int{1}}, eof()), full, api.ErrLong},
		{"a record outside behind the most", append(empty(most), one(1), bof(5, 0), eof()), full, api.ErrOrder},
		{"an EOF outside behind the most", append(empty(most), eof()), full, api.ErrOrder},
		{"the last lacks an EOF", append(empty(most-1), bof(5, 0), one(1)), at(2*most - 2), api.ErrShort},
		{"a BOF in the last", append(empty(most-1), bof(5, 0), bof(5, 0), eof()), at(2*most - 1), api.ErrOrder},
		{"the last one's BOF", append(empty(most-1), bof(5)), at(2*most - 2), api.ErrForm},
	} {
		l, place, e := sub.Split(row(c.l...))
		if len(l) != 0 || place != c.at || e != c.want {
			t.Errorf("P201: %s: %s, %d, %v", c.name, told(l), place, e)
		}
	}
}

// expect tells what Split is to tell of these records, one stream after the
// other.
func expect(l []rec.Rec) (string, int, api.Errno) {
	var out []sub.Stream
	for len(l) > 0 {
		b := l[0]
		if b.Type != sub.BOF {
			return "", b.At, api.ErrOrder
		}
		if len(b.Data) != 2 || len(b.Cuts) != 0 {
			return "", b.At, api.ErrForm
		}
		n := slices.IndexFunc(l[1:], func(r rec.Rec) bool { return r.Type == sub.BOF || r.Type == sub.EOF })
		if n < 0 {
			return "", b.At, api.ErrShort
		}
		end := l[1+n]
		if end.Type == sub.BOF {
			return "", end.At, api.ErrOrder
		}
		if len(end.Data) != 0 || len(end.Cuts) != 0 {
			return "", end.At, api.ErrForm
		}
		out = append(out, sub.Stream{Kind: int(b.Data[0]) + 256*int(b.Data[1]), Recs: l[1 : 1+n]})
		l = l[n+2:]
	}
	return told(out), 0, api.OK
}

// TestP201SplitOfAllRows goes through all short rows of records that Split
// tells apart; what it takes, Join tells again.
func TestP201SplitOfAllRows(t *testing.T) {
	parts := []rec.Rec{
		bof(5, 0),
		bof(0x34, 0x12),
		bof(5),
		{Type: sub.BOF, Data: []byte{5, 0}, Cuts: []int{1}},
		eof(),
		one(sub.EOF, 0),
		{Type: sub.EOF, Cuts: []int{1}},
		one(1, 2),
		{Type: 3, Data: []byte{4, 5}, Cuts: []int{1}},
	}
	var try func(l []rec.Rec, depth int)
	try = func(l []rec.Rec, depth int) {
		r := row(l...)
		want, wantAt, wantE := expect(r)
		got, place, e := sub.Split(r)
		if told(got) != want || place != wantAt || e != wantE {
			t.Fatalf("P201: %s: %s, %d, %v, want %s, %d, %v", toldRecs(r), told(got), place, e, want, wantAt, wantE)
		}
		if back, f := sub.Join(got); e == api.OK && (f != api.OK || toldRecs(back) != toldRecs(l)) {
			t.Fatalf("P201: %s: %s, %v", toldRecs(r), toldRecs(back), f)
		}
		if depth == 0 {
			return
		}
		for _, p := range parts {
			try(append(l[:len(l):len(l)], p), depth-1)
		}
	}
	try(nil, 5)
}

func TestP201Join(t *testing.T) {
	for _, c := range []struct {
		name string
		l    []sub.Stream
		want string
	}{
		{"nothing", nil, ""},
		{"nothing, not nil", []sub.Stream{}, ""},
		{"no records", []sub.Stream{{Kind: 0x10}}, "(809 1000 [] @0)(a  [] @0)"},
		{"no records, not nil", []sub.Stream{{Recs: []rec.Rec{}}}, "(809 0000 [] @0)(a  [] @0)"},
		{"the lower byte first", []sub.Stream{{Kind: 0xFE05}}, "(809 05fe [] @0)(a  [] @0)"},
		{"the greatest Kind", []sub.Stream{{Kind: 0xFFFF}}, "(809 ffff [] @0)(a  [] @0)"},
		{"At 0", []sub.Stream{{Kind: 5, Recs: row(one(1, 7), rec.Rec{Type: 2, Data: []byte{1, 2, 3}, Cuts: []int{1, 2}})}}, "(809 0500 [] @0)(1 07 [] @0)(2 010203 [1 2] @0)(a  [] @0)"},
		{"one behind the other", []sub.Stream{{Kind: 5, Recs: row(one(1))}, {Kind: 6}, {Kind: 7, Recs: row(one(2), one(3))}}, "(809 0500 [] @0)(1  [] @0)(a  [] @0)(809 0600 [] @0)(a  [] @0)(809 0700 [] @0)(2  [] @0)(3  [] @0)(a  [] @0)"},
		{"types alike by a byte", []sub.Stream{{Recs: []rec.Rec{one(0x808), one(0x80A), one(9), one(0x0B), one(0x10809), one(0x1000A)}}}, "(809 0000 [] @0)(808  [] @0)(80a  [] @0)(9  [] @0)(b  [] @0)(10809  [] @0)(1000a  [] @0)(a  [] @0)"},
		{"no records that may be written", []sub.Stream{{Recs: []rec.Rec{one(rec.Continue), {Type: -1, Data: []byte{1}, Cuts: []int{9, 3}}}}}, "(809 0000 [] @0)(3c  [] @0)(-1 01 [9 3] @0)(a  [] @0)"},
	} {
		l, e := sub.Join(c.l)
		if toldRecs(l) != c.want || e != api.OK {
			t.Errorf("P201: %s: %s, %v", c.name, toldRecs(l), e)
		}
	}
}

func TestP201JoinRefuses(t *testing.T) {
	below, above := sub.Stream{Kind: -1}, sub.Stream{Kind: 0x10000}
	begins := sub.Stream{Recs: []rec.Rec{one(1), bof(5, 0)}}
	ends := sub.Stream{Recs: []rec.Rec{eof(), one(1)}}
	both := sub.Stream{Kind: 1 << 62, Recs: []rec.Rec{eof()}}
	long := slices.Repeat([]sub.Stream{{Kind: 5}}, most+1)
	for _, c := range []struct {
		name string
		l    []sub.Stream
		want api.Errno
	}{
		{"a Kind below", []sub.Stream{below}, api.ErrArg},
		{"a Kind above", []sub.Stream{above}, api.ErrArg},
		{"the least Kind of all", []sub.Stream{{Kind: -1 << 63}}, api.ErrArg},
		{"a BOF among Recs", []sub.Stream{begins}, api.ErrOrder},
		{"an EOF among Recs", []sub.Stream{ends}, api.ErrOrder},
		{"a BOF without data among Recs", []sub.Stream{{Recs: []rec.Rec{bof()}}}, api.ErrOrder},
		{"an EOF with data among Recs", []sub.Stream{{Recs: []rec.Rec{one(sub.EOF, 1)}}}, api.ErrOrder},
		{"a whole stream among Recs", []sub.Stream{{Recs: empty(1)}}, api.ErrOrder},
		{"the Kind ahead of the Recs", []sub.Stream{both}, api.ErrArg},
		{"the second", []sub.Stream{{}, above, ends}, api.ErrArg},
		{"the first of two", []sub.Stream{ends, above}, api.ErrOrder},
		{"the first of two, turned", []sub.Stream{above, ends}, api.ErrArg},
		{"one too many", long, api.ErrLong},
		{"one too many, the first wrong", slices.Concat([]sub.Stream{both}, long[1:]), api.ErrLong},
		{"one too many, the last wrong", slices.Concat(long[1:], []sub.Stream{begins}), api.ErrLong},
		{"the most, the last wrong", slices.Concat(long[2:], []sub.Stream{begins}), api.ErrOrder},
	} {
		if l, e := sub.Join(c.l); len(l) != 0 || e != c.want {
			t.Errorf("P201: %s: %s, %v", c.name, toldRecs(l), e)
		}
	}
	if l, e := sub.Join(long[1:]); len(l) != 2*most || e != api.OK {
		t.Errorf("P201: the most: %s, %v", toldRecs(l), e)
	}
}

// TestP201ThereAndBack: Split tells again what was joined, of whatever Kind;
// what goes through bytes in between has another place, and nothing else.
func TestP201ThereAndBack(t *testing.T) {
	for kind := range 0x10000 {
		l := []sub.Stream{{Kind: kind, Recs: []rec.Rec{one(kind&0xFF+0x100, byte(kind))}}, {Kind: 0xFFFF - kind}}
		joined, e := sub.Join(l)
		back, place, f := sub.Split(joined)
		if e != api.OK || f != api.OK || place != 0 || told(back) != told(l) {
			t.Fatalf("P201: %x: %s, %v, %v", kind, told(back), e, f)
		}
	}
	long := rec.Cut(rec.Rec{Type: 0x207, Data: bytes.Repeat([]byte{sub.EOF, 0}, 300)})
	l := []sub.Stream{{Kind: 5, Recs: []rec.Rec{long, one(0xFC)}}, {Kind: 0x10, Recs: []rec.Rec{long, long}}}
	joined, _ := sub.Join(l)
	b, e := rec.Write(joined)
	read, _, f := rec.Read(b)
	back, place, g := sub.Split(read)
	if e != api.OK || f != api.OK || g != api.OK || place != 0 || len(back) != 2 {
		t.Fatalf("P201: %s, %d, %v, %v, %v", told(back), place, e, f, g)
	}
	for i := range l {
		if back[i].Kind != l[i].Kind || !slices.EqualFunc(back[i].Recs, l[i].Recs, rec.Same) {
			t.Errorf("P201: %s", told(back[i:i+1]))
		}
	}
	// from it on: two records of 600 bytes in three parts each, and the EOF
	if n := back[1].Recs[0].At; n != len(b)-2*(600+3*4)-4 {
		t.Errorf("P201: a record's place: %d of %d", n, len(b))
	}
}

// spoil writes over all that a record's lists have, their spare room too.
func spoil(r rec.Rec) {
	data, cuts := r.Data[:cap(r.Data)], r.Cuts[:cap(r.Cuts)]
	for i := range data {
		data[i] = ^data[i]
	}
	for i := range cuts {
		cuts[i] = ^cuts[i]
	}
}

// spoilRecs writes over l and all that it has, the spare room too.
func spoilRecs(l []rec.Rec) {
	for _, r := range l {
		spoil(r)
	}
	l = l[:cap(l)]
	for i := range l {
		l[i] = rec.Rec{Type: -7, At: -7}
	}
}

// wide tells a record whose lists have spare room.
func wide(kind int, n int) rec.Rec {
	r := rec.Rec{Type: kind, Data: make([]byte, n, 2*n+3), Cuts: make([]int, n/2, n+2)}
	for i := range r.Cuts {
		r.Cuts[i] = i + 1
	}
	return r
}

func wideBOF() rec.Rec { return rec.Rec{Type: sub.BOF, Data: append(make([]byte, 0, 9), 5, 0)} }

func wideEOF() rec.Rec {
	return rec.Rec{Type: sub.EOF, Data: make([]byte, 0, 3), Cuts: make([]int, 0, 3)}
}

// toldWhole tells l in words, its spare room too.
func toldWhole(l []rec.Rec) string {
	var whole []rec.Rec
	for _, r := range l[:cap(l)] {
		r.Data, r.Cuts = r.Data[:cap(r.Data)], r.Cuts[:cap(r.Cuts)]
		whole = append(whole, r)
	}
	return toldRecs(whole)
}

func TestP201SplitKeepsNothing(t *testing.T) {
	l := append(make([]rec.Rec, 0, 20), wideBOF(), wide(1, 4), wide(2, 0), wide(3, 6), wideEOF(), wideBOF(), wide(4, 5), wideEOF(), wideBOF(), wideEOF())
	before := toldWhole(l)
	for i := range 3 {
		got, _, _ := sub.Split(l)
		want, _, _ := sub.Split(l)
		spoilRecs(got[i].Recs)
		got[i], want[i] = sub.Stream{}, sub.Stream{}
		if told(got) != told(want) {
			t.Errorf("P201: stream %d shares with another: %s", i, told(got))
		}
		if toldWhole(l) != before {
			t.Fatalf("P201: stream %d shares with the records, or they are changed", i)
		}
	}
	got, _, _ := sub.Split(l)
	want := told(got)
	spoil(got[0].Recs[0])
	got[0].Recs[0] = rec.Rec{}
	other, _, _ := sub.Split(l)
	other[0].Recs[0] = rec.Rec{}
	if told(got) != told(other) {
		t.Errorf("P201: a record shares with another: %s", told(got))
	}
	got, _, _ = sub.Split(l)
	spoilRecs(l)
	if told(got) != want {
		t.Errorf("P201: what was handed in is kept: %s", told(got))
	}
}

func TestP201JoinKeepsNothing(t *testing.T) {
	recs := append(make([]rec.Rec, 0, 9), wide(1, 4), wide(2, 0), wide(3, 6))
	l := append(make([]sub.Stream, 0, 9), sub.Stream{Kind: 5, Recs: recs}, sub.Stream{Kind: 5, Recs: recs}, sub.Stream{Kind: 5})
	before := toldWhole(recs)
	want, _ := sub.Join(l)
	for i := range want {
		got, _ := sub.Join(l)
		want, _ := sub.Join(l)
		spoil(got[i])
		got[i], want[i] = rec.Rec{}, rec.Rec{}
		if toldRecs(got) != toldRecs(want) {
			t.Errorf("P201: record %d shares with another: %s", i, toldRecs(got))
		}
		if toldWhole(recs) != before || len(l[:cap(l)][3].Recs) != 0 {
			t.Fatalf("P201: record %d shares with the streams, or they are changed", i)
		}
	}
	got, _ := sub.Join(l)
	spoilRecs(recs)
	if toldRecs(got) != toldRecs(want) {
		t.Errorf("P201: what was handed in is kept: %s", toldRecs(got))
	}
}
