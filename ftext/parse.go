package ftext

import (
	"cashbook/api"
	"cashbook/expr"
	"cashbook/ref"
)

// What may stand next.
const (
	wantsOperand = iota
	wantsFirst   // a function's first Kid, or the end of its brackets
	wantsPlace   // the place that a sheet has right behind it
	wantsCorner  // an area's other corner
	behindPlace  // as behindAll, and what makes an area of that place
	behindAll    // what stands behind an operand
)

// waiting is a sign or a bracket whose Kids are not all there.
type waiting struct {
	kind  int
	op    int
	binds int
	first int // where among the operands its Kids begin
}

// parser is how far a formula is taken. It has lists of its own where calls
// would go down into brackets: there is no bound to these in a text.
type parser struct {
	wants    int
	waits    []waiting
	operands []expr.Expr
}

// parse tells the formula that s is, whatever expr.Check tells of it, or the
// place of the first word or sign that is wrong.
func parse(s string, base ref.Cell) (expr.Expr, int, api.Errno) {
	l := words{s: s, base: base}
	var p parser
	for {
		w := l.next()
		if wrong := p.take(w); wrong != api.OK {
			return expr.Expr{}, w.at, wrong
		}
		if w.isEnd() {
			return p.operands[0], 0, api.OK
		}
	}
}

// take takes one word or sign more.
func (p *parser) take(w word) api.Errno {
	switch p.wants {
	case wantsOperand, wantsFirst:
		return p.takeOperand(w)
	case wantsPlace, wantsCorner:
		return p.takePlace(w)
	}
	return p.takeBehind(w)
}

// takeOperand takes what an operand is or begins with.
func (p *parser) takeOperand(w word) api.Errno {
	switch {
	case w.wrong != api.OK:
		return w.wrong
	case w.e.Kind == 0:
		return p.takeAhead(w)
	case w.e.Kind == expr.Call:
		p.wait(waiting{kind: expr.Call, op: w.e.Op, first: len(p.operands)}, wantsFirst)
		return api.OK
	}
	p.operands = append(p.operands, w.e)
	p.wants = wantedBehind(w.e.Kind)
	return api.OK
}

// wantedBehind tells what may stand behind a word of this Kind.
func wantedBehind(kind int) int {
	switch kind {
	case expr.Sheet:
		return wantsPlace
	case expr.Cell:
		return behindPlace
	}
	return behindAll
}

// takeAhead takes a sign where an operand may stand.
func (p *parser) takeAhead(w word) api.Errno {
	op := aheadOf(w.sign)
	switch {
	case op != 0:
		p.wait(waiting{kind: expr.Unary, op: op, binds: bindsAhead, first: len(p.operands)}, wantsOperand)
	case w.sign == signOpen:
		p.wait(waiting{kind: expr.Paren, first: len(p.operands)}, wantsOperand)
	case w.sign == signClose && p.wants == wantsFirst:
		p.gatherLast()
	default:
		return w.refused()
	}
	return api.OK
}

// takePlace takes the place that a sheet's word or an area's first corner wants.
func (p *parser) takePlace(w word) api.Errno {
	switch {
	case w.e.Kind != expr.Cell || p.wants == wantsPlace && w.apart:
		return w.refused()
	case w.wrong != api.OK:
		return w.wrong
	}
	last := &p.operands[len(p.operands)-1]
	if p.wants == wantsPlace {
		last.A.A = w.e.A.A
		p.wants = behindPlace
		return api.OK
	}
	last.A.B = w.e.A.A
	last.Kind = areaOf(last.Kind)
	p.wants = behindAll
	return api.OK
}

// areaOf tells the Kind of an area whose first corner is of this one.
func areaOf(kind int) int {
	if kind == expr.Sheet {
		return expr.SArea
	}
	return expr.Area
}

// takeBehind takes what stands behind an operand.
func (p *parser) takeBehind(w word) api.Errno {
	if op := binOf(w.sign); op != 0 {
		p.settle(bins[op].binds)
		p.wait(waiting{kind: expr.Bin, op: op, binds: bins[op].binds, first: len(p.operands) - 1}, wantsOperand)
		return api.OK
	}
	switch {
	case w.sign == signTo && p.wants == behindPlace:
		p.wants = wantsCorner
		return api.OK
	case w.sign == signPercent:
		p.gather(waiting{kind: expr.Unary, op: opPercent, first: len(p.operands) - 1})
		return api.OK
	case w.sign == signNext, w.sign == signClose, w.isEnd():
		return p.takeEnd(w)
	}
	return w.refused()
}

// takeEnd takes what ends an operand of a bracket, or of all.
func (p *parser) takeEnd(w word) api.Errno {
	p.settle(bindsComparison)
	bracket := 0
	if len(p.waits) > 0 {
		bracket = p.waits[len(p.waits)-1].kind
	}
	switch {
	case w.sign == signNext && bracket == expr.Call:
		p.wants = wantsOperand
	case w.sign == signClose && bracket != 0:
		p.gatherLast()
	case w.isEnd() && bracket == 0:
	default:
		return w.refused()
	}
	return api.OK
}

func (p *parser) wait(w waiting, wants int) {
	p.waits = append(p.waits, w)
	p.wants = wants
}

// settle gathers what waits and binds so much at least: all of it is there. No
// bracket binds so much.
func (p *parser) settle(binds int) {
	for len(p.waits) > 0 && p.waits[len(p.waits)-1].binds >= binds {
		p.gatherLast()
	}
}

// gatherLast gathers what waits last.
func (p *parser) gatherLast() {
	last := len(p.waits) - 1
	p.gather(p.waits[last])
	p.waits = p.waits[:last]
}

// gather makes one operand of those that w waited for.
func (p *parser) gather(w waiting) {
	e := expr.Expr{Kind: w.kind, Op: w.op}
	e.Kids = append(e.Kids, p.operands[w.first:]...)
	p.operands = append(p.operands[:w.first], e)
	p.wants = behindAll
}
