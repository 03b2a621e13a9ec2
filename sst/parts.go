package sst

import (
	"cashbook/api"
	"cashbook/le"
	"cashbook/str"
)

// head is how many bytes a text has ahead of its units: how many these are,
// and the flags, which are the last of them.
const head = 3

// firstPaired is the first rune that is two units.
const firstPaired = 0x10000

// parts is an SST's Data while it grows: the last part, which begins at from,
// takes what still fits in it.
type parts struct {
	data   []byte
	cuts   []int
	from   int
	places []int
}

// putFront puts what stands ahead of the texts of t, which Check takes.
func (p *parts) putFront(t Table) {
	b, _ := le.Put32(nil, t.Uses)
	b, _ = le.Put32(b, int64(len(t.Texts)))
	p.data = append(p.data, b...)
}

// putText puts s, which str takes. The flags that stand once more behind a Cut
// are in the room of the part that it begins.
func (p *parts) putText(s string) {
	b, _ := str.Put(nil, s)
	flags := b[head-1]
	width := 1 + int(flags)
	p.makeRoom(head)
	p.places = append(p.places, len(p.data))
	p.data = append(p.data, b[:head]...)
	b = b[head:]
	for _, r := range s {
		for range unitsOf(r) {
			if p.makeRoom(width) {
				p.data = append(p.data, flags)
			}
			p.data = append(p.data, b[:width]...)
			b = b[width:]
		}
	}
}

// makeRoom cuts where so many bytes don't fit in the last part, and tells
// whether it did.
func (p *parts) makeRoom(size int) bool {
	if len(p.data)-p.from+size <= api.MaxData {
		return false
	}
	p.from = len(p.data)
	p.cuts = append(p.cuts, p.from)
	return true
}

func unitsOf(r rune) int {
	if r >= firstPaired {
		return 2
	}
	return 1
}
