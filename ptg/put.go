package ptg

import (
	"cashbook/expr"
	"cashbook/le"
	"cashbook/ref"
	"cashbook/str"
	"cashbook/val"
)

// way is where a way through a tree is, each one behind its Kids: from the root
// down to the one that comes next.
type way []step

// step is one of them, and how many of its Kids have been gone to.
type step struct {
	e    expr.Expr
	gone int
}

// next takes the next one; by a false there is none.
func (w *way) next() (expr.Expr, bool) {
	l := *w
	if len(l) == 0 {
		return expr.Expr{}, false
	}

down:
	top := &l[len(l)-1]
	if top.gone < len(top.e.Kids) {
		top.gone++
		l = append(l, step{e: top.e.Kids[top.gone-1]})
		goto down
	}
	*w = l[:len(l)-1]
	return top.e, true
}

// put tells e's token, without those of its Kids. Nothing that is put can fail:
// expr.Check has taken e.
func put(e expr.Expr) []byte {
	switch e.Kind {
	case expr.Const:
		return putConst(e.V)
	case expr.Cell, expr.Area, expr.Sheet, expr.SArea:
		return putPlace(e)
	case expr.Name:
		out, _ := le.Put16([]byte{markName}, e.Op)
		return out
	case expr.Unary:
		return []byte{markOfUnary(e.Op)}
	case expr.Bin:
		return []byte{aheadOfBin + byte(e.Op)}
	case expr.Call:
		return []byte{markCall, byte(len(e.Kids)), byte(e.Op)}
	}
	return []byte{markParen}
}

func putConst(v val.Val) []byte {
	switch v.Kind {
	case val.Num:
		return append(le.Put64([]byte{markNum}, v.N.M), byte(v.N.S))
	case val.Str:
		out, _ := str.Put([]byte{markStr}, v.S)
		return out
	case val.Bool:
		return []byte{markBool, bit(v.B, 1)}
	}
	return []byte{markErr, byte(v.E)}
}

// bit tells the bit if it is set, else nothing.
func bit(set bool, bit byte) byte {
	if set {
		return bit
	}
	return 0
}

func putPlace(e expr.Expr) []byte {
	out := []byte{markOfPlace(e.Kind)}
	if hasSheet(e.Kind) {
		out = append(out, byte(e.Sheet))
	}
	out = putRef(out, e.A.A)
	if hasArea(e.Kind) {
		out = putRef(out, e.A.B)
	}
	return out
}

func putRef(out []byte, r ref.Ref) []byte {
	out, _ = le.Put16(out, r.Row)
	return append(out, byte(r.Col), bit(r.RelRow, flagRow)|bit(r.RelCol, flagCol))
}

func markOfPlace(kind int) byte {
	switch kind {
	case expr.Cell:
		return markCell
	case expr.Area:
		return markArea
	case expr.Sheet:
		return markSheet
	}
	return markSArea
}

func markOfUnary(op int) byte {
	switch op {
	case opMinus:
		return markMinus
	case opPlus:
		return markPlus
	}
	return markPercent
}
