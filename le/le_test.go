package le_test

import (
	"bytes"
	"encoding/binary"
	"math"
	"slices"
	"testing"

	"cashbook/api"
	"cashbook/le"
)

const (
	least = math.MinInt64
	most  = math.MaxInt64
)

// read is one of the calls that read a number, by the number of its bytes.
type read struct {
	name string
	size int
	call func(le.Cursor) (int64, le.Cursor, api.Errno)
}

func widened(f func(le.Cursor) (int, le.Cursor, api.Errno)) func(le.Cursor) (int64, le.Cursor, api.Errno) {
	return func(c le.Cursor) (int64, le.Cursor, api.Errno) {
		n, next, e := f(c)
		return int64(n), next, e
	}
}

func reads() []read {
	return []read{{"U8", 1, widened(le.U8)}, {"U16", 2, widened(le.U16)}, {"U32", 4, le.U32}, {"I64", 8, le.I64}}
}

// same tells whether a is b: the place, and the very same bytes.
func same(a, b le.Cursor) bool { return a.At == b.At && sameList(a.B, b.B) }

// sameList tells whether a is b itself, the spare room too, and no copy of it.
func sameList(a, b []byte) bool {
	if len(a) != len(b) || cap(a) != cap(b) || (a == nil) != (b == nil) {
		return false
	}
	return cap(a) == 0 || &a[:1][0] == &b[:1][0]
}

// roomy tells a list of these bytes with spare room that has bytes too.
func roomy(b ...byte) []byte {
	l := append(make([]byte, 0, len(b)+20), b...)
	for i := range l[len(l):cap(l)] {
		l[len(l):cap(l)][i] = 0xEE
	}
	return l
}

// spoil writes over all that b has, its spare room too.
func spoil(b []byte) {
	b = b[:cap(b)]
	for i := range b {
		b[i] = ^b[i]
	}
}

func TestP301Reads(t *testing.T) {
	for _, c := range []struct {
		name string
		b    []byte
		at   int
		want [4]int64 // of U8, U16, U32, I64
	}{
		{"the lower byte first", []byte{1, 2, 3, 4, 5, 6, 7, 8}, 0, [4]int64{1, 0x0201, 0x04030201, 0x0807060504030201}},
		{"nothing", make([]byte, 8), 0, [4]int64{0, 0, 0, 0}},
		{"the greatest without a sign", bytes.Repeat([]byte{0xFF}, 8), 0, [4]int64{0xFF, 0xFFFF, 0xFFFFFFFF, -1}},
		{"the greatest", []byte{0xFF, 0xFF, 0xFF, 0xFF, 0xFF, 0xFF, 0xFF, 0x7F}, 0, [4]int64{0xFF, 0xFFFF, 0xFFFFFFFF, most}},
		{"the least", []byte{0, 0, 0, 0, 0, 0, 0, 0x80}, 0, [4]int64{0, 0, 0, least}},
		{"one above the least", []byte{1, 0, 0, 0, 0, 0, 0, 0x80}, 0, [4]int64{1, 1, 1, least + 1}},
		{"-2", []byte{0xFE, 0xFF, 0xFF, 0xFF, 0xFF, 0xFF, 0xFF, 0xFF}, 0, [4]int64{0xFE, 0xFFFE, 0xFFFFFFFE, -2}},
		{"-256", []byte{0, 0xFF, 0xFF, 0xFF, 0xFF, 0xFF, 0xFF, 0xFF}, 0, [4]int64{0, 0xFF00, 0xFFFFFF00, -256}},
		{"a high bit of each size", []byte{0x80, 0x80, 0, 0x80, 0, 0, 0, 0}, 0, [4]int64{0x80, 0x8080, 0x80008080, 0x80008080}},
		{"a bit above four bytes", []byte{0, 0, 0, 0, 1, 0, 0, 0}, 0, [4]int64{0, 0, 0, 1 << 32}},
		{"in the midst", []byte{9, 9, 9, 1, 2, 3, 4, 5, 6, 7, 8, 9, 9}, 3, [4]int64{1, 0x0201, 0x04030201, 0x0807060504030201}},
		{"up to the end", []byte{9, 1, 2, 3, 4, 5, 6, 7, 8}, 1, [4]int64{1, 0x0201, 0x04030201, 0x0807060504030201}},
	} {
		from := le.Cursor{B: roomy(c.b...), At: c.at}
		for i, r := range reads() {
			n, next, e := r.call(from)
			if n != c.want[i] || e != api.OK {
				t.Errorf("P301: %s: %s: %x, %v", c.name, r.name, n, e)
			}
			if !same(next, le.Cursor{B: from.B, At: c.at + r.size}) {
				t.Errorf("P301: %s: %s: the Cursor behind: %d of %x", c.name, r.name, next.At, next.B)
			}
		}
		if !bytes.Equal(from.B, c.b) {
			t.Errorf("P301: %s: the bytes are changed: %x", c.name, from.B)
		}
	}
}

// TestP301ReadsOneBehindTheOther: each call goes on where the one ahead of it
// ended, and the last ends where the bytes do.
func TestP301ReadsOneBehindTheOther(t *testing.T) {
	c := le.Cursor{B: []byte{7, 1, 2, 0xAA, 0xBB, 0xCC, 4, 3, 2, 1, 0xFB, 0xFF, 0xFF, 0xFF, 0xFF, 0xFF, 0xFF, 0xFF}}
	a, c, e1 := le.U8(c)
	b, c, e2 := le.U16(c)
	l, c, e3 := le.Bytes(c, 3)
	d, c, e4 := le.U32(c)
	f, c, e5 := le.I64(c)
	if a != 7 || b != 0x0201 || !bytes.Equal(l, []byte{0xAA, 0xBB, 0xCC}) || d != 0x01020304 || f != -5 {
		t.Errorf("P301: %x, %x, %x, %x, %d", a, b, l, d, f)
	}
	if e := []api.Errno{e1, e2, e3, e4, e5, le.End(c)}; slices.Max(e) != api.OK || c.At != 18 {
		t.Errorf("P301: %v, %d", e, c.At)
	}
}

func TestP301ReadsTooShort(t *testing.T) {
	for _, r := range reads() {
		for ahead := range 3 {
			for there := range 10 {
				// spare room is not there: what it has is not read
				c := le.Cursor{B: roomy(bytes.Repeat([]byte{5}, ahead+there)...), At: ahead}
				n, next, e := r.call(c)
				switch {
				case there >= r.size:
					if n == 0 || next.At != ahead+r.size || e != api.OK {
						t.Errorf("P301: %s of %d: %x, %d, %v", r.name, there, n, next.At, e)
					}
				case n != 0 || !same(next, c) || e != api.ErrShort:
					t.Errorf("P301: %s of %d: %x, %d, %v", r.name, there, n, next.At, e)
				}
			}
		}
	}
	for _, c := range []le.Cursor{{}, {B: []byte{}}} {
		for _, r := range reads() {
			if n, next, e := r.call(c); n != 0 || !same(next, c) || e != api.ErrShort {
				t.Errorf("P301: %s of nothing: %x, %d, %v", r.name, n, next.At, e)
			}
		}
	}
}

func TestP301Bytes(t *testing.T) {
	b := []byte{1, 2, 3, 4, 5}
	for at := range len(b) + 1 {
		for n := range len(b) + 3 {
			c := le.Cursor{B: roomy(b...), At: at}
			l, next, e := le.Bytes(c, n)
			switch {
			case at+n > len(b):
				if len(l) != 0 || !same(next, c) || e != api.ErrShort {
					t.Errorf("P301: Bytes at %d, %d: %x, %d, %v", at, n, l, next.At, e)
				}
			case !bytes.Equal(l, b[at:at+n]) || !same(next, le.Cursor{B: c.B, At: at + n}) || e != api.OK:
				t.Errorf("P301: Bytes at %d, %d: %x, %d, %v", at, n, l, next.At, e)
			}
		}
	}
	for _, c := range []struct {
		name string
		c    le.Cursor
		n    int
		want api.Errno
	}{
		{"none of nothing", le.Cursor{}, 0, api.OK},
		{"one of nothing", le.Cursor{}, 1, api.ErrShort},
		{"-1 of nothing", le.Cursor{}, -1, api.ErrArg},
		{"below 0", le.Cursor{B: b, At: 2}, -1, api.ErrArg},
		{"below 0, as many as stand ahead", le.Cursor{B: b, At: 2}, -2, api.ErrArg},
		{"below 0 at the end", le.Cursor{B: b, At: 5}, -1, api.ErrArg},
		{"the least of all", le.Cursor{B: b, At: 2}, least, api.ErrArg},
		{"the greatest of all", le.Cursor{B: b, At: 2}, most, api.ErrShort},
		{"the greatest of all at the end", le.Cursor{B: b, At: 5}, most, api.ErrShort},
		{"so many that the place behind goes round", le.Cursor{B: b, At: 5}, most - 4, api.ErrShort},
	} {
		l, next, e := le.Bytes(c.c, c.n)
		if len(l) != 0 || !same(next, c.c) || e != c.want {
			t.Errorf("P301: Bytes: %s: %x, %d, %v", c.name, l, next.At, e)
		}
	}
}

func TestP301CursorThatIsNone(t *testing.T) {
	for _, c := range []le.Cursor{
		{At: -1},
		{At: 1},
		{B: []byte{}, At: 1},
		{B: []byte{1}, At: -1},
		{B: make([]byte, 20), At: -1},
		{B: make([]byte, 20), At: -8},
		{B: make([]byte, 20), At: 21},
		{B: make([]byte, 20, 60), At: 21},
		{B: make([]byte, 20, 60), At: 40},
		{B: make([]byte, 20), At: least},
		{B: make([]byte, 20), At: most},
		{B: make([]byte, 20), At: most - 7},
	} {
		for _, r := range reads() {
			if n, next, e := r.call(c); n != 0 || !same(next, c) || e != api.ErrArg {
				t.Errorf("P301: %s at %d of %d: %x, %d, %v", r.name, c.At, len(c.B), n, next.At, e)
			}
		}
		for _, n := range []int{0, 1, -1, 20, 21, least, most} {
			if l, next, e := le.Bytes(c, n); len(l) != 0 || !same(next, c) || e != api.ErrArg {
				t.Errorf("P301: Bytes at %d of %d, %d: %x, %d, %v", c.At, len(c.B), n, l, next.At, e)
			}
		}
		if e := le.End(c); e != api.ErrArg {
			t.Errorf("P301: End at %d of %d: %v", c.At, len(c.B), e)
		}
	}
}

func TestP301End(t *testing.T) {
	for size := range 12 {
		for at := range size + 1 {
			want := api.ErrLong
			if at == size {
				want = api.OK
			}
			if e := le.End(le.Cursor{B: roomy(make([]byte, size)...), At: at}); e != want {
				t.Errorf("P301: End at %d of %d: %v", at, size, e)
			}
		}
	}
	if e := le.End(le.Cursor{}); e != api.OK {
		t.Errorf("P301: End of nothing: %v", e)
	}
}

func TestP301Puts(t *testing.T) {
	for _, c := range []struct {
		n    int64
		want []byte
	}{
		{0, []byte{0, 0, 0, 0, 0, 0, 0, 0}},
		{1, []byte{1, 0, 0, 0, 0, 0, 0, 0}},
		{255, []byte{255, 0, 0, 0, 0, 0, 0, 0}},
		{256, []byte{0, 1, 0, 0, 0, 0, 0, 0}},
		{0x1234, []byte{0x34, 0x12, 0, 0, 0, 0, 0, 0}},
		{0x8000, []byte{0, 0x80, 0, 0, 0, 0, 0, 0}},
		{1<<16 - 1, []byte{255, 255, 0, 0, 0, 0, 0, 0}},
		{1 << 16, []byte{0, 0, 1, 0, 0, 0, 0, 0}},
		{0x12345678, []byte{0x78, 0x56, 0x34, 0x12, 0, 0, 0, 0}},
		{1 << 31, []byte{0, 0, 0, 0x80, 0, 0, 0, 0}},
		{1<<32 - 1, []byte{255, 255, 255, 255, 0, 0, 0, 0}},
		{1 << 32, []byte{0, 0, 0, 0, 1, 0, 0, 0}},
		{1<<32 + 7, []byte{7, 0, 0, 0, 1, 0, 0, 0}},
		{0x0807060504030201, []byte{1, 2, 3, 4, 5, 6, 7, 8}},
		{most, []byte{255, 255, 255, 255, 255, 255, 255, 127}},
		{-1, []byte{255, 255, 255, 255, 255, 255, 255, 255}},
		{-2, []byte{254, 255, 255, 255, 255, 255, 255, 255}},
		{-1 << 16, []byte{0, 0, 255, 255, 255, 255, 255, 255}},
		{-1 << 32, []byte{0, 0, 0, 0, 255, 255, 255, 255}},
		{least + 3, []byte{3, 0, 0, 0, 0, 0, 0, 0x80}},
		{least, []byte{0, 0, 0, 0, 0, 0, 0, 0x80}},
	} {
		for _, b := range [][]byte{nil, {}, {9}, {1, 2, 3}, roomy(), roomy(7, 8, 9)} {
			two, e2 := le.Put16(b, int(c.n))
			four, e4 := le.Put32(b, c.n)
			eight := le.Put64(b, c.n)
			checkPut(t, "Put16", b, c.n, c.want[:2], c.n >= 0 && c.n < 1<<16, two, e2)
			checkPut(t, "Put32", b, c.n, c.want[:4], c.n >= 0 && c.n < 1<<32, four, e4)
			checkPut(t, "Put64", b, c.n, c.want, true, eight, api.OK)
		}
	}
}

// checkPut holds what a Put answered against b and those bytes behind it, or
// against b alone and ErrArg.
func checkPut(t *testing.T, name string, b []byte, n int64, behind []byte, may bool, got []byte, e api.Errno) {
	want, wantE := slices.Concat(b, behind), api.OK
	if !may {
		want, wantE = b, api.ErrArg
	}
	if !bytes.Equal(got, want) || e != wantE {
		t.Errorf("P301: %s of %x, %d: %x, %v", name, b, n, got, e)
	}
}

// TestP301ThereAndBack: what is put is read again, the bytes that another
// writer of such numbers tells.
func TestP301ThereAndBack(t *testing.T) {
	ahead := []byte{0xAA, 0xBB}
	for n := range 1 << 16 {
		b, e := le.Put16(ahead, n)
		back, c, f := le.U16(le.Cursor{B: b, At: 2})
		if e != api.OK || f != api.OK || back != n || le.End(c) != api.OK || !bytes.Equal(b, binary.LittleEndian.AppendUint16(slices.Clone(ahead), uint16(n))) {
			t.Fatalf("P301: %x: %x, %x, %v, %v", n, b, back, e, f)
		}
		low, _, _ := le.U8(le.Cursor{B: b, At: 2})
		high, c, f := le.U8(le.Cursor{B: b, At: 3})
		if low != n%256 || high != n/256 || le.End(c) != api.OK || f != api.OK {
			t.Fatalf("P301: %x: %x, %x", n, low, high)
		}
	}
	for _, n := range patterns() {
		b := le.Put64(ahead, int64(n))
		back, c, f := le.I64(le.Cursor{B: b, At: 2})
		if f != api.OK || back != int64(n) || le.End(c) != api.OK || !bytes.Equal(b, binary.LittleEndian.AppendUint64(slices.Clone(ahead), n)) {
			t.Fatalf("P301: %x: %x, %x, %v", n, b, back, f)
		}
		short := uint32(n)
		b, e := le.Put32(ahead, int64(short))
		back, c, f = le.U32(le.Cursor{B: b, At: 2})
		if e != api.OK || f != api.OK || back != int64(short) || le.End(c) != api.OK || !bytes.Equal(b, binary.LittleEndian.AppendUint32(slices.Clone(ahead), short)) {
			t.Fatalf("P301: %x: %x, %x, %v, %v", short, b, back, e, f)
		}
	}
}

// patterns tells numbers of one bit, of two, of all bits below one, and their
// opposites.
func patterns() []uint64 {
	l := []uint64{0}
	for i := range 64 {
		for j := range i + 1 {
			l = append(l, 1<<i|1<<j, 1<<i-1<<j)
		}
	}
	for _, n := range slices.Clone(l) {
		l = append(l, -n, ^n)
	}
	return l
}

// TestP301BytesAreNew: who writes over what Bytes told changes nothing of the
// Cursor's bytes, nor of what it told at another time.
func TestP301BytesAreNew(t *testing.T) {
	for n := range 6 {
		b := roomy(1, 2, 3, 4, 5)
		whole := slices.Clone(b[:cap(b)])
		c := le.Cursor{B: b}
		first, next, _ := le.Bytes(c, n)
		second, _, _ := le.Bytes(c, n)
		spoil(first)
		if !bytes.Equal(b[:cap(b)], whole) || !bytes.Equal(second, whole[:n]) {
			t.Errorf("P301: Bytes of %d are shared: %x, %x", n, b[:cap(b)], second)
		}
		spoil(b)
		if !bytes.Equal(second, whole[:n]) {
			t.Errorf("P301: Bytes of %d are those of the Cursor: %x", n, second)
		}
		if !same(next, le.Cursor{B: b, At: n}) {
			t.Errorf("P301: the Cursor behind has other bytes")
		}
	}
}

// TestP301PutsAreNew: b stays as it is, its spare room too; what is told of it
// is told in memory of its own, beside an error too.
func TestP301PutsAreNew(t *testing.T) {
	for _, c := range []struct {
		name string
		put  func([]byte) []byte
	}{
		{"Put16", func(b []byte) []byte { l, _ := le.Put16(b, 0x1234); return l }},
		{"Put16, refused", func(b []byte) []byte { l, _ := le.Put16(b, -1); return l }},
		{"Put32", func(b []byte) []byte { l, _ := le.Put32(b, 0x12345678); return l }},
		{"Put32, refused", func(b []byte) []byte { l, _ := le.Put32(b, 1<<32); return l }},
		{"Put64", func(b []byte) []byte { return le.Put64(b, -5) }},
	} {
		for _, b := range [][]byte{roomy(), roomy(1, 2, 3)} {
			whole := slices.Clone(b[:cap(b)])
			first, second := c.put(b), c.put(b)
			want := slices.Clone(second)
			spoil(first)
			if !bytes.Equal(b[:cap(b)], whole) || !bytes.Equal(second, want) {
				t.Errorf("P301: %s: the answer is shared: %x, %x", c.name, b[:cap(b)], second)
			}
			spoil(b)
			if !bytes.Equal(second, want) {
				t.Errorf("P301: %s: the answer is b's: %x", c.name, second)
			}
		}
	}
}
