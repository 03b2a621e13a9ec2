package ftext

import (
	"math"
	"strconv"
	"strings"
	"unicode/utf8"

	"cashbook/api"
	"cashbook/dec"
	"cashbook/expr"
	"cashbook/fun"
	"cashbook/ref"
	"cashbook/str"
	"cashbook/val"
)

// faults has the numbers of all errors' values.
var faults = [...]int{val.Null, val.Div0, val.Value, val.RefE, val.NameE, val.NumE, val.NA}

// word is a word or a sign; one that is neither is the end.
type word struct {
	at    int       // its first byte
	apart bool      // blanks stand ahead of it
	sign  string    // of a sign
	e     expr.Expr // of a word: what it stands for: a Call without its Kids, a Sheet without its place
	wrong api.Errno // of a word: what is wrong with it alone
}

func (w word) isEnd() bool { return w.sign == "" && w.e.Kind == 0 }

// refused tells what is wrong with a word or sign that may not stand where it
// does. What is wrong with a number, a text or an error's value is so wherever
// it stands.
func (w word) refused() api.Errno {
	if w.e.Kind == expr.Const && w.wrong != api.OK {
		return w.wrong
	}
	return api.ErrForm
}

// words is a text, and how far its words are taken.
type words struct {
	s    string
	at   int
	base ref.Cell // from which its places are seen
}

// next takes the next word or sign.
func (l *words) next() word {
	blanks := span(l.s[l.at:], isBlank)
	l.at += blanks
	w, size := read(l.s[l.at:], l.base)
	w.at, w.apart = l.at, blanks > 0
	l.at += size
	return w
}

// span tells how many of the bytes that s begins with are of such runes.
func span(s string, isSuch func(r rune) bool) int {
	for i, r := range s {
		if !isSuch(r) {
			return i
		}
	}
	return len(s)
}

func isBlank(r rune) bool { return r == ' ' }

func isLetter(r rune) bool { return r >= 'A' && r <= 'Z' }

func isDigit(r rune) bool { return r >= '0' && r <= '9' }

func isOfNumber(r rune) bool { return isDigit(r) || r == '.' }

func isOfWord(r rune) bool { return isLetter(r) || isDigit(r) || r == '$' || r == '\'' }

// read tells the word or sign that s begins with, and how many bytes it has.
func read(s string, base ref.Cell) (word, int) {
	if s == "" {
		return word{}, 0
	}
	switch first, _ := utf8.DecodeRuneInString(s); {
	case isOfNumber(first):
		return readNumber(s)
	case first == '"':
		return readText(s)
	case first == '#':
		return readFault(s)
	case isOfWord(first):
		return readWord(s, base)
	}
	sign := signOf(s)
	return word{sign: sign}, len(sign)
}

func constant(v val.Val, wrong api.Errno) word {
	return word{e: expr.Expr{Kind: expr.Const, V: v}, wrong: wrong}
}

func readNumber(s string) (word, int) {
	size := span(s, isOfNumber)
	n, wrong := dec.Parse(s[:size])
	return constant(val.Val{Kind: val.Num, N: n}, wrong), size
}

func readText(s string) (word, int) {
	size, ended := sizeOfText(s)
	if !ended {
		return constant(val.Val{}, api.ErrForm), size
	}
	// a copy: of s nothing is kept
	inside := strings.Clone(strings.ReplaceAll(s[1:size-1], quote+quote, quote))
	_, wrong := str.Units(inside)
	return constant(val.Val{Kind: val.Str, S: inside}, wrong), size
}

// sizeOfText tells how many bytes the text has that s begins with; by a false
// it has no end.
func sizeOfText(s string) (int, bool) {
	ended := false // by a `"`, if no other one follows
	for i, r := range s[1:] {
		if r == '"' {
			ended = !ended
		} else if ended {
			return 1 + i, true
		}
	}
	return len(s), ended
}

func readFault(s string) (word, int) {
	for _, n := range faults {
		v := val.Fault(n)
		if name := val.Text(v); strings.HasPrefix(s, name) {
			return constant(v, api.OK), len(name)
		}
	}
	return constant(val.Val{}, api.ErrForm), 1
}

// readWord reads a word of letters. A truth with a bracket or a `!` right behind
// it is none, so these are asked ahead.
func readWord(s string, base ref.Cell) (word, int) {
	size := span(s, isOfWord)
	name, behind := s[:size], s[size:]
	if strings.HasPrefix(behind, signOpen) {
		return functionWord(name), size + len(signOpen)
	}
	if n, ok := numberWithin(nameHead, name, nameTail); ok {
		return word{e: expr.Expr{Kind: expr.Name, Op: n}}, size
	}
	if strings.HasPrefix(behind, sheetTail) {
		return sheetWord(name), size + len(sheetTail)
	}
	if b, _, ok := val.Truth(val.Val{Kind: val.Str, S: name}); ok {
		return constant(val.Val{Kind: val.Bool, B: b}, api.OK), size
	}
	r, wrong := parseRef(name, base)
	return word{e: expr.Expr{Kind: expr.Cell, A: ref.Area{A: r}}, wrong: wrong}, size
}

func functionWord(name string) word {
	op, ok := fun.Find(name)
	return word{e: expr.Expr{Kind: expr.Call, Op: op}, wrong: wrongUnless(ok, api.ErrName)}
}

func sheetWord(name string) word {
	n, ok := numberWithin(sheetHead, name, "")
	ok = ok && n >= 1
	return word{e: expr.Expr{Kind: expr.Sheet, Sheet: n - 1}, wrong: wrongUnless(ok, api.ErrForm)}
}

func wrongUnless(ok bool, wrong api.Errno) api.Errno {
	if ok {
		return api.OK
	}
	return wrong
}

// numberWithin tells the decimal between head and tail of s; by a false it is
// none, or one that does not go into 31 bits.
func numberWithin(head, s, tail string) (int, bool) {
	s, headed := strings.CutPrefix(s, head)
	s, tailed := strings.CutSuffix(s, tail)
	n, e := strconv.Atoi(s)
	if !headed || !tailed || e != nil || n > math.MaxInt32 || strconv.Itoa(n) != s {
		return 0, false
	}
	return n, true
}

// parseRef tells the place that s is, seen from base.
func parseRef(s string, base ref.Cell) (ref.Ref, api.Errno) {
	s, fixedCol := strings.CutPrefix(s, fixed)
	letters := span(s, isLetter)
	row, fixedRow := strings.CutPrefix(s[letters:], fixed)
	// letters behind the row's sign would be the column's without it
	if span(row, isDigit) < len(row) {
		return ref.Ref{}, api.ErrForm
	}
	c, wrong := ref.Parse(s[:letters] + row)
	if wrong != api.OK {
		return ref.Ref{}, wrong
	}
	return ref.Rel(c, base, !fixedRow, !fixedCol), api.OK
}
