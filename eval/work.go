package eval

import (
	"cashbook/api"
	"cashbook/env"
	"cashbook/expr"
	"cashbook/fun"
	"cashbook/ref"
	"cashbook/val"
)

// work is what trees are worked out with.
type work struct {
	v          env.Env
	at         env.Place
	rows, cols int          // of how many cells Areas are taken one by one; none: they are not
	names      map[int]told // what those Names tell that are asked for
}

// formula tells what e tells, its Names worked out ahead: each once, however
// often it stands there.
func (w work) formula(e expr.Expr) told {
	names := map[int]told{}
	for _, r := range expr.Refs(e) {
		if _, known := names[r.Op]; r.Kind == expr.Name && !known && w.hasName(r.Op) {
			names[r.Op] = w.tell(w.v.Names[r.Op])
		}
	}
	w.names = names
	return w.tell(e)
}

func (w work) hasName(n int) bool {
	return n < len(w.v.Names) && expr.Check(w.v.Names[n]) == api.OK
}

// open is one whose Kids are not all worked out: so many are.
type open struct {
	e    expr.Expr
	done int
}

// tell tells what e tells: each one is worked out behind its Kids, which wait
// for it on a stack of what they told.
func (w work) tell(e expr.Expr) told {
	var way []open
	var waiting []told

enter:
	way = append(way, open{e: e})

onward:
	last := &way[len(way)-1]
	if last.done < len(last.e.Kids) {
		e = last.e.Kids[last.done]
		last.done++
		goto enter
	}
	first := len(waiting) - len(last.e.Kids)
	t := w.one(last.e, waiting[first:])
	waiting = append(waiting[:first], t)
	way = way[:len(way)-1]
	if len(way) > 0 {
		goto onward
	}
	return t
}

// one tells what e tells, of what its Kids told.
func (w work) one(e expr.Expr, kids []told) told {
	switch e.Kind {
	case expr.Const:
		return single(e.V)
	case expr.Cell:
		return w.cell(e.A.A, w.at.Sheet)
	case expr.Area:
		return w.area(e.A, w.at.Sheet)
	case expr.Sheet:
		return w.cell(e.A.A, e.Sheet)
	case expr.SArea:
		return w.area(e.A, e.Sheet)
	case expr.Name:
		return w.name(e.Op)
	case expr.Paren:
		return kids[0]
	}
	return w.applied(e, kids)
}

func (w work) cell(r ref.Ref, sheet int) told {
	return single(env.Get(w.v, env.Place{Sheet: sheet, At: ref.At(r, w.at.At)}))
}

func (w work) area(a ref.Area, sheet int) told {
	cells := ref.Cells(a, w.at.At)
	if len(cells) == 0 || sheet < 0 || sheet >= w.v.Sheets {
		return single(val.Fault(val.RefE))
	}
	first, last := ref.Bounds(a, w.at.At)
	t := told{
		area: true,
		rows: last.Row - first.Row + 1,
		cols: last.Col - first.Col + 1,
		l:    make([]val.Val, len(cells)),
	}
	for n, c := range cells {
		t.l[n] = env.Get(w.v, env.Place{Sheet: sheet, At: c})
	}
	return t
}

func (w work) name(n int) told {
	t, known := w.names[n]
	if !known {
		return single(val.Fault(val.NameE))
	}
	return t
}

// applied tells what a sign or a function tells of what its Kids told: of each
// cell where one of these differs from cell to cell, else once for all.
func (w work) applied(e expr.Expr, kids []told) told {
	if !takesAreas(e) {
		for n := range kids {
			kids[n] = w.oneByOne(kids[n])
		}
	}
	cells := 1
	for _, kid := range kids {
		cells = max(cells, kid.cells())
	}
	t := told{l: make([]val.Val, cells)}
	args := make([]fun.Arg, len(kids))
	for cell := range t.l {
		for n, kid := range kids {
			args[n] = kid.arg(cell)
		}
		t.l[cell] = apply(e, args)
	}
	return t
}

// oneByOne tells of an Area of just the cells that are asked for to each one its
// own value.
func (w work) oneByOne(t told) told {
	switch {
	case !t.area || w.rows == 0:
		return t
	case t.rows != w.rows || t.cols != w.cols:
		return single(val.Fault(val.Value))
	}
	return told{l: t.l}
}

// takesAreas tells whether e takes Areas whole, where others take them one by
// one.
func takesAreas(e expr.Expr) bool {
	if e.Kind != expr.Call {
		return false
	}
	name, _ := fun.Name(e.Op)
	switch name {
	case "SUM", "MIN", "MAX", "COUNT", "AVERAGE", "AND", "OR", "CONCAT", "INDEX":
		return true
	}
	return false
}

// apply tells what a sign or a function tells of args.
func apply(e expr.Expr, args []fun.Arg) val.Val {
	if e.Kind == expr.Call {
		return fun.Apply(e.Op, args)
	}
	for _, a := range args {
		if a.Area {
			return val.Fault(val.Value)
		}
	}
	if e.Kind == expr.Unary {
		return fun.Unary(e.Op, args[0].L[0])
	}
	return fun.Binary(e.Op, args[0].L[0], args[1].L[0])
}
