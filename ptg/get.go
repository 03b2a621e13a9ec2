package ptg

import (
	"bytes"

	"cashbook/api"
	"cashbook/dec"
	"cashbook/expr"
	"cashbook/le"
	"cashbook/ref"
	"cashbook/str"
	"cashbook/val"
)

// How many bytes stand behind a mark.
const (
	sizeOfNum   = 9
	sizeOfSmall = 1 // a Bool, an Err, the sheet of a place
	sizeOfRef   = 4
	sizeOfPair  = 2 // a Name, a Call
)

// reader is how far tokens are read.
type reader struct {
	c        le.Cursor // behind those that are read
	count    int
	operands []expr.Expr // what they stand for, and no later one has taken
}

// readAll reads b's tokens; with an error the reader stands at the one that is
// wrong.
func readAll(b []byte) (reader, api.Errno) {
	r := reader{c: le.Cursor{B: b}}
	if len(b) > api.MaxTokens {
		return r, api.ErrLong
	}

next:
	if le.End(r.c) == api.OK {
		return r, api.OK
	}
	if wrong := r.read(); wrong != api.OK {
		return r, wrong
	}
	goto next
}

// read reads one token more.
func (r *reader) read() api.Errno {
	t, c, wrong := get(r.c)
	if wrong != api.OK {
		return wrong
	}
	first := len(r.operands) - t.takes
	if first < 0 {
		return api.ErrStack
	}
	t.e.Kids = append(t.e.Kids, r.operands[first:]...)
	r.operands = append(r.operands[:first], t.e)
	r.c = c
	r.count++
	return api.OK
}

// token is what a token stands for, but for its operands, and how many of these
// it takes.
type token struct {
	e     expr.Expr
	takes int
}

// get tells the token at c, and the Cursor behind it; with an error neither is
// of use.
func get(c le.Cursor) (token, le.Cursor, api.Errno) {
	mark, c, wrong := le.U8(c)
	if wrong != api.OK {
		return token{}, c, wrong
	}
	if mark == markStr {
		return getStr(c)
	}
	// all that it has is asked for ahead: that there is too little comes ahead
	// of what may not be, wherever this stands
	_, behind, wrong := le.Bytes(c, size(mark))
	if wrong != api.OK {
		return token{}, c, wrong
	}
	t, wrong := parse(mark, c)
	return t, behind, wrong
}

// getStr tells a text's token. What is wrong with it is what str tells, and that
// is one thing alone.
func getStr(c le.Cursor) (token, le.Cursor, api.Errno) {
	s, behind, wrong := str.Get(c, nil)
	if wrong != api.OK {
		return token{}, c, wrong
	}
	if again, _ := str.Put(nil, s); !bytes.Equal(again, c.B[c.At:behind.At]) {
		return token{}, c, api.ErrForm
	}
	return constant(val.Val{Kind: val.Str, S: s}), behind, api.OK
}

// size tells how many bytes a token has behind its mark, if it is no text's.
func size(mark int) int {
	switch mark {
	case markNum:
		return sizeOfNum
	case markBool, markErr:
		return sizeOfSmall
	case markCell:
		return sizeOfRef
	case markArea:
		return 2 * sizeOfRef
	case markSheet:
		return sizeOfSmall + sizeOfRef
	case markSArea:
		return sizeOfSmall + 2*sizeOfRef
	case markName, markCall:
		return sizeOfPair
	}
	return 0
}

// parse tells the token of a mark, and of what stands behind it at c: as much as
// its size says.
func parse(mark int, c le.Cursor) (token, api.Errno) {
	switch mark {
	case markNum:
		return parseNum(c), api.OK
	case markBool:
		return parseBool(c)
	case markErr:
		n, _, _ := le.U8(c)
		return constant(val.Fault(n)), api.OK
	case markCell:
		return parsePlace(expr.Cell, c)
	case markArea:
		return parsePlace(expr.Area, c)
	case markSheet:
		return parsePlace(expr.Sheet, c)
	case markSArea:
		return parsePlace(expr.SArea, c)
	case markName:
		n, _, _ := le.U16(c)
		return node(expr.Name, n, 0), api.OK
	case markCall:
		kids, c, _ := le.U8(c)
		op, _, _ := le.U8(c)
		return node(expr.Call, op, kids), api.OK
	}
	return parseSign(mark)
}

// parseSign tells the token of a mark that has nothing behind it.
func parseSign(mark int) (token, api.Errno) {
	switch mark {
	case markMinus:
		return node(expr.Unary, opMinus, 1), api.OK
	case markPlus:
		return node(expr.Unary, opPlus, 1), api.OK
	case markPercent:
		return node(expr.Unary, opPercent, 1), api.OK
	case markParen:
		return node(expr.Paren, 0, 1), api.OK
	}
	op := mark - aheadOfBin
	if op < 1 || op > lastBin {
		return token{}, api.ErrForm
	}
	return node(expr.Bin, op, 2), api.OK
}

func constant(v val.Val) token { return token{e: expr.Expr{Kind: expr.Const, V: v}} }

func node(kind, op, takes int) token {
	return token{e: expr.Expr{Kind: kind, Op: op}, takes: takes}
}

func parseNum(c le.Cursor) token {
	m, c, _ := le.I64(c)
	s, _, _ := le.U8(c)
	return constant(val.Val{Kind: val.Num, N: dec.Dec{M: m, S: s}})
}

func parseBool(c le.Cursor) (token, api.Errno) {
	n, _, _ := le.U8(c)
	if n > 1 {
		return token{}, api.ErrForm
	}
	return constant(val.Val{Kind: val.Bool, B: n == 1}), api.OK
}

func parsePlace(kind int, c le.Cursor) (token, api.Errno) {
	e := expr.Expr{Kind: kind}
	wrong := api.OK
	if hasSheet(kind) {
		e.Sheet, c, _ = le.U8(c)
	}
	e.A.A, c, wrong = parseRef(c)
	if wrong == api.OK && hasArea(kind) {
		e.A.B, _, wrong = parseRef(c)
	}
	return token{e: e}, wrong
}

func parseRef(c le.Cursor) (ref.Ref, le.Cursor, api.Errno) {
	row, c, _ := le.U16(c)
	col, c, _ := le.U8(c)
	flags, c, _ := le.U8(c)
	if flags > flagRow+flagCol {
		return ref.Ref{}, c, api.ErrForm
	}
	return ref.Ref{Row: row, Col: col, RelRow: flags&flagRow != 0, RelCol: flags&flagCol != 0}, c, api.OK
}
