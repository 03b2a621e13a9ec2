// Package rec: records. See doc/01-rec.md.
package rec

import (
	"bytes"
	"slices"

	"cashbook/api"
)

// Continue: see the chapter.
const Continue = 0x3C

// head is how many bytes stand ahead of a record's Data: its Type and its length.
const head = 4

// maxWhole is how much Data a record may have, that of its Continues with it.
const maxWhole = api.MaxTokens * 16

// Rec: see the chapter.
type Rec struct {
	Type int
	Data []byte
	Cuts []int
	At   int
}

// Read tells the records of b, or what is wrong and where it begins.
func Read(b []byte) ([]Rec, int, api.Errno) {
	var l []Rec
	at, e := 0, api.OK
	for at < len(b) {
		var kind int
		var data []byte
		kind, data, e = first(b[at:])
		if e != api.OK {
			goto wrong
		}
		l, e = add(l, kind, data, at)
		if e != api.OK {
			goto wrong
		}
		at += head + len(data)
	wrong:
		if e != api.OK {
			return nil, at, e
		}
	}
	return l, 0, api.OK
}

// first tells the type and the data of the record that b begins with. The
// data is a part of b: who keeps it takes a copy.
func first(b []byte) (int, []byte, api.Errno) {
	if len(b) < head {
		return 0, nil, api.ErrShort
	}
	kind, size := get16(b), get16(b[2:])
	if size > api.MaxData {
		return 0, nil, api.ErrLong
	}
	if len(b)-head < size {
		return 0, nil, api.ErrShort
	}
	return kind, b[head : head+size], api.OK
}

// add tells l with the record that begins at at, or with it joined to l's last.
func add(l []Rec, kind int, data []byte, at int) ([]Rec, api.Errno) {
	if kind != Continue {
		return append(l, Rec{Type: kind, Data: bytes.Clone(data), At: at}), api.OK
	}
	e := checkContinue(l, data)
	if e != api.OK {
		return nil, e
	}
	extend(&l[len(l)-1], data)
	return l, api.OK
}

// checkContinue tells whether a Continue with this data may stand behind l.
func checkContinue(l []Rec, data []byte) api.Errno {
	if len(l) == 0 {
		return api.ErrOrder
	}
	ahead := len(l[len(l)-1].Data)
	if len(data) == 0 || ahead == 0 {
		return api.ErrForm
	}
	if ahead+len(data) > maxWhole {
		return api.ErrLong
	}
	return api.OK
}

func extend(r *Rec, data []byte) {
	r.Cuts = append(r.Cuts, len(r.Data))
	r.Data = append(r.Data, data...)
}

// Write tells the bytes of l, or what is wrong with the first that is.
func Write(l []Rec) ([]byte, api.Errno) {
	var b []byte
	for _, r := range l {
		e := Check(r)
		if e != api.OK {
			goto wrong
		}
		b = putRec(b, r)
	wrong:
		if e != api.OK {
			return nil, e
		}
	}
	return b, api.OK
}

func putRec(b []byte, r Rec) []byte {
	kind, from := r.Type, 0
	for _, cut := range r.Cuts {
		b = putPart(b, kind, r.Data[from:cut])
		kind, from = Continue, cut
	}
	return putPart(b, kind, r.Data[from:])
}

func putPart(b []byte, kind int, data []byte) []byte {
	b = put16(b, kind)
	b = put16(b, len(data))
	return append(b, data...)
}

// Check tells what is wrong with r.
func Check(r Rec) api.Errno {
	switch {
	case r.Type < 0 || r.Type > 0xFFFF || r.Type == Continue:
		return api.ErrArg
	case len(r.Data) > maxWhole:
		return api.ErrLong
	case !rise(r.Cuts, len(r.Data)):
		return api.ErrOrder
	case longest(r.Cuts, len(r.Data)) > api.MaxData:
		return api.ErrLong
	}
	return api.OK
}

// rise tells whether each cut leaves something ahead of it, and all of them
// leave something behind.
func rise(cuts []int, size int) bool {
	last := 0
	for _, cut := range cuts {
		if cut <= last || cut >= size {
			return false
		}
		last = cut
	}
	return true
}

// longest tells how long the longest part is into which cuts that rise part
// so many bytes.
func longest(cuts []int, size int) int {
	most, from := 0, 0
	for _, cut := range cuts {
		most = max(most, cut-from)
		from = cut
	}
	return max(most, size-from)
}

// Cut tells r with as few Cuts as may be.
func Cut(r Rec) Rec {
	var cuts []int
	for at := api.MaxData; at < len(r.Data); at += api.MaxData {
		cuts = append(cuts, at)
	}
	return Rec{Type: r.Type, Data: bytes.Clone(r.Data), Cuts: cuts, At: r.At}
}

// Same tells whether a and b are alike, wherever they stand.
func Same(a, b Rec) bool {
	return a.Type == b.Type && bytes.Equal(a.Data, b.Data) && slices.Equal(a.Cuts, b.Cuts)
}

func get16(b []byte) int { return int(b[0]) | int(b[1])<<8 }

func put16(b []byte, n int) []byte { return append(b, byte(n), byte(n>>8)) }
