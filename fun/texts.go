package fun

import (
	"strings"

	"cashbook/api"
	"cashbook/dec"
	"cashbook/str"
	"cashbook/val"
)

// maxBytes is a bound of a text's bytes: a rune has no more than four, and one
// unit at least.
const maxBytes = 4 * api.MaxUnits

// concat tells the words of all values, one behind the other.
func concat(args []Arg) val.Val {
	var out strings.Builder
	for v := range picked(args, val.Blank, val.Num, val.Str, val.Bool) {
		s, fault, ok := val.Words(v)
		if !ok {
			return fault
		}
		// too long already: what is told instead of those behind is all that
		// matters
		if out.Len() <= maxBytes {
			out.WriteString(s)
		}
	}
	return text(out.String())
}

func ofWords(op int, v val.Val) val.Val {
	s, fault, ok := val.Words(v)
	switch {
	case !ok:
		return fault
	case op == opUpper:
		return text(shifted(s, 'a', 'z', 'A'-'a'))
	case op == opLower:
		return text(shifted(s, 'A', 'Z', 'a'-'A'))
	}
	return length(s)
}

func length(s string) val.Val {
	n, e := str.Units(s)
	if e != api.OK {
		return val.Fault(val.Value)
	}
	return number(dec.Int(int64(n)))
}

// shifted tells s with each rune from first to last put so much further.
func shifted(s string, first, last, by rune) string {
	var out strings.Builder
	for _, r := range s {
		if r >= first && r <= last {
			r += by
		}
		out.WriteRune(r)
	}
	return out.String()
}

// end tells the first or the last runes of a text: one, or as many as the second
// value says.
func end(op int, l []val.Val) val.Val {
	s, fault, ok := val.Words(l[0])
	if !ok {
		return fault
	}
	n := int64(1)
	if len(l) > 1 {
		n, fault, ok = whole(l[1], 0)
	}
	switch {
	case !ok:
		return fault
	case op == opLeft:
		return text(s[:behind(s, n)])
	}
	return text(s[behind(s, max(0, runes(s)-n)):])
}

// middle tells so many runes of a text, from the one that from numbers on.
func middle(v, from, size val.Val) val.Val {
	s, fault, ok := val.Words(v)
	if !ok {
		return fault
	}
	first, fault, ok := whole(from, 1)
	if !ok {
		return fault
	}
	n, fault, ok := whole(size, 0)
	if !ok {
		return fault
	}
	s = s[behind(s, first-1):]
	return text(s[:behind(s, n)])
}

// whole tells the whole number that v is, least or more, or, by a false, what
// is told instead.
func whole(v val.Val, least int64) (int64, val.Val, bool) {
	d, fault, ok := val.Number(v)
	switch {
	case !ok:
		return 0, fault, false
	case !isWhole(d) || d.M < least:
		return 0, val.Fault(val.Value), false
	}
	return d.M, val.Val{}, true
}

// behind tells where in s the first n runes end; where there are fewer, s does.
func behind(s string, n int64) int {
	for at := range s {
		if n == 0 {
			return at
		}
		n--
	}
	return len(s)
}

func runes(s string) int64 {
	n := int64(0)
	for range s {
		n++
	}
	return n
}

// exact tells whether two words are the same.
func exact(a, b val.Val) val.Val {
	s, fault, ok := val.Words(a)
	if !ok {
		return fault
	}
	t, fault, ok := val.Words(b)
	if !ok {
		return fault
	}
	return truth(s == t)
}

// repeat tells a word so many times. What would be too long is not made.
func repeat(v, times val.Val) val.Val {
	s, fault, ok := val.Words(v)
	if !ok {
		return fault
	}
	n, fault, ok := whole(times, 0)
	switch {
	case !ok:
		return fault
	case n == 0 || s == "":
		return text("")
	case n > api.MaxUnits || len(s) > maxBytes:
		return val.Fault(val.Value)
	}
	return text(strings.Repeat(s, int(n)))
}
