package ftext

import (
	"strconv"
	"strings"

	"cashbook/expr"
	"cashbook/fun"
	"cashbook/ref"
	"cashbook/val"
)

// What words begin or end with.
const (
	quote     = `"`
	fixed     = "$" // ahead of what a place has that goes with no base
	nameHead  = "N"
	nameTail  = "'"
	sheetHead = "S"
	sheetTail = "!"
)

// text goes down by calls of itself: no formula that is told is deeper than
// MaxDepth.
func text(e expr.Expr, base ref.Cell) string {
	switch e.Kind {
	case expr.Const:
		return constText(e.V)
	case expr.Cell, expr.Area, expr.Sheet, expr.SArea:
		return placeText(e, base)
	case expr.Name:
		return nameHead + strconv.Itoa(e.Op) + nameTail
	case expr.Unary:
		return unaryText(e, base)
	case expr.Bin:
		return textWithin(e.Kids[0], leastAhead(e.Op), base) + bins[e.Op].sign +
			textWithin(e.Kids[1], leastBehind(e.Op), base)
	case expr.Call:
		return callText(e, base)
	}
	return bracketed(text(e.Kids[0], base))
}

// textWithin tells e where what binds less than least stands in brackets.
func textWithin(e expr.Expr, least int, base ref.Cell) string {
	if binding(e) < least {
		return bracketed(text(e, base))
	}
	return text(e, base)
}

func bracketed(s string) string { return signOpen + s + signClose }

func constText(v val.Val) string {
	if v.Kind == val.Str {
		return quote + strings.ReplaceAll(v.S, quote, quote+quote) + quote
	}
	return val.Text(v)
}

func unaryText(e expr.Expr, base ref.Cell) string {
	switch kid := e.Kids[0]; e.Op {
	case opMinus:
		return signMinus + textWithin(kid, bindsAhead, base)
	case opPlus:
		return signPlus + textWithin(kid, bindsAhead, base)
	default:
		return textWithin(kid, bindsPercent, base) + signPercent
	}
}

func callText(e expr.Expr, base ref.Cell) string {
	name, _ := fun.Name(e.Op)
	var kids []string
	for _, kid := range e.Kids {
		kids = append(kids, text(kid, base))
	}
	return name + bracketed(strings.Join(kids, signNext))
}

func placeText(e expr.Expr, base ref.Cell) string {
	out := refText(e.A.A, base)
	if e.Kind == expr.Area || e.Kind == expr.SArea {
		out += signTo + refText(e.A.B, base)
	}
	if e.Kind == expr.Sheet || e.Kind == expr.SArea {
		out = sheetHead + strconv.Itoa(e.Sheet+1) + sheetTail + out
	}
	return out
}

func refText(r ref.Ref, base ref.Cell) string {
	s := ref.Text(ref.At(r, base))
	row := span(s, isLetter)
	return unless(r.RelCol, fixed) + s[:row] + unless(r.RelRow, fixed) + s[row:]
}

// unless tells s, or nothing where that is not wanted.
func unless(unwanted bool, s string) string {
	if unwanted {
		return ""
	}
	return s
}
