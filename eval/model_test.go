package eval_test

import (
	"math/rand"
	"slices"
	"testing"

	"cashbook/api"
	"cashbook/env"
	"cashbook/eval"
	"cashbook/expr"
	"cashbook/ftext"
	"cashbook/fun"
	"cashbook/ref"
)

// model tells what the chapter asks by going down a tree for one cell alone: it
// knows on its way down whether an Area there is wanted whole.
type model struct {
	slots      map[P]V
	v          E
	at         P
	rows, cols int // 0: Eval
	cell       int
}

func newModel(v E, p P) model {
	m := model{slots: map[P]V{}, v: v, at: p}
	for _, s := range v.Slots {
		m.slots[s.P] = s.V
	}
	return m
}

func (m model) eval(e X) V {
	a := m.arg(e, m.rows == 0)
	switch {
	case a.Area:
		return value
	case a.L[0].Kind == 0:
		return num(0)
	}
	return a.L[0]
}

func (m model) array(e X, rows, cols int) []V {
	var out []V
	m.rows, m.cols = rows, cols
	for m.cell = range rows * cols {
		out = append(out, m.eval(e))
	}
	return out
}

func (m model) arg(e X, whole bool) fun.Arg {
	switch e.Kind {
	case 1:
		return fun.One(e.V)
	case 2:
		return fun.One(m.get(m.at.Sheet, m.spot(e.A.A)))
	case 3:
		return m.area(e.A, m.at.Sheet, whole)
	case 4:
		return fun.One(m.get(e.Sheet, m.spot(e.A.A)))
	case 5:
		return m.area(e.A, e.Sheet, whole)
	case 6:
		if e.Op >= len(m.v.Names) {
			return fun.One(nameE)
		}
		return m.arg(m.v.Names[e.Op], whole)
	case 7, 8:
		return fun.One(m.sign(e))
	case 10:
		return m.arg(e.Kids[0], whole)
	}
	// SUM, MIN, MAX, COUNT, AVERAGE, AND, OR, CONCAT, INDEX
	wanted := m.rows == 0 || slices.Contains([]int{0, 1, 2, 3, 4, 11, 12, 18, 24}, e.Op)
	var args []fun.Arg
	for _, kid := range e.Kids {
		args = append(args, m.arg(kid, wanted))
	}
	return fun.One(fun.Apply(e.Op, args))
}

func (m model) sign(e X) V {
	var l []V
	for _, kid := range e.Kids {
		a := m.arg(kid, m.rows == 0)
		if a.Area {
			return value
		}
		l = append(l, a.L[0])
	}
	if e.Kind == 7 {
		return fun.Unary(e.Op, l[0])
	}
	return fun.Binary(e.Op, l[0], l[1])
}

// spot tells the cell that r is, round at the edges.
func (m model) spot(r ref.Ref) ref.Cell {
	c := ref.Cell{Row: r.Row, Col: r.Col}
	if r.RelRow {
		c.Row = (r.Row + m.at.At.Row) & (mostRows - 1)
	}
	if r.RelCol {
		c.Col = (r.Col + m.at.At.Col) & (mostCols - 1)
	}
	return c
}

func (m model) get(sheet int, c ref.Cell) V {
	if sheet < 0 || sheet >= m.v.Sheets {
		return refE
	}
	return m.slots[P{Sheet: sheet, At: c}]
}

func (m model) area(a ref.Area, sheet int, whole bool) fun.Arg {
	x, y := m.spot(a.A), m.spot(a.B)
	top, left := min(x.Row, y.Row), min(x.Col, y.Col)
	rows, cols := max(x.Row, y.Row)-top+1, max(x.Col, y.Col)-left+1
	switch {
	case sheet < 0 || sheet >= m.v.Sheets || rows*cols > mostCells:
		return fun.One(refE)
	case whole:
		out := fun.Arg{Area: true}
		for n := range rows * cols {
			out.L = append(out.L, m.get(sheet, ref.Cell{Row: top + n/cols, Col: left + n%cols}))
		}
		return out
	case rows != m.rows || cols != m.cols:
		return fun.One(value)
	}
	return fun.One(m.get(sheet, ref.Cell{Row: top + m.cell/cols, Col: left + m.cell%cols}))
}

// maker makes what is told by a fixed row of numbers.
type maker struct{ *rand.Rand }

// span is how many rows and columns about a sheet's corner are filled.
const span = 4

func (k maker) value() V {
	return []V{num(int64(k.Intn(5))), num(int64(-k.Intn(3))), part(int64(k.Intn(9)*10+5), 1), text(""), text("a"), text("3"), text("TRUE"), text("\U0001F600b"), yes, no, div0, na, num(2), num(1)}[k.Intn(14)]
}

// env tells some values about the corners of some sheets, and some Names.
func (k maker) env() E {
	v := E{Sheets: 1 + k.Intn(3)}
	for sheet := range v.Sheets {
		for row := range span {
			for col := range span {
				if k.Intn(4) > 0 {
					v = env.Put(v, at(sheet, (row+mostRows-1)%mostRows, (col+mostCols-1)%mostCols), k.value())
				}
			}
		}
	}
	for range k.Intn(5) {
		v.Names = append(v.Names, k.tree(1+k.Intn(3), false))
	}
	return v
}

// place tells a place about a corner; at times there is no such sheet.
func (k maker) place() P {
	return at(k.Intn(3), (k.Intn(span)+mostRows-1)%mostRows, (k.Intn(span)+mostCols-1)%mostCols)
}

func (k maker) ref() ref.Ref {
	c := k.place().At
	return ref.Ref{Row: c.Row, Col: c.Col, RelRow: k.Intn(3) == 0, RelCol: k.Intn(3) == 0}
}

// area tells two corners, mostly near each other.
func (k maker) area() ref.Area {
	a := ref.Area{A: k.ref(), B: k.ref()}
	if k.Intn(8) > 0 {
		a.B = a.A
		a.B.Row = (a.B.Row + k.Intn(3)) % mostRows
		a.B.Col = (a.B.Col + k.Intn(3)) % mostCols
	}
	if k.Intn(2) == 0 {
		a.A, a.B = a.B, a.A
	}
	return a
}

// tree tells a formula of so many levels at most; of Names one without Names.
func (k maker) tree(depth int, names bool) X {
	kind := 1 + k.Intn(14)
	if depth == 1 {
		kind = 1 + k.Intn(6)
	}
	switch kind {
	case 1:
		if v := k.value(); v.Kind != 0 {
			return X{Kind: 1, V: v}
		}
	case 2:
		return X{Kind: 2, A: ref.Area{A: k.ref()}}
	case 4:
		return X{Kind: 4, A: ref.Area{A: k.ref()}, Sheet: k.Intn(4)}
	case 5:
		return X{Kind: 5, A: k.area(), Sheet: k.Intn(4)}
	case 6:
		if names {
			return X{Kind: 6, Op: k.Intn(5)}
		}
	case 7:
		return X{Kind: 7, Op: 1 + k.Intn(3), Kids: k.trees(1, depth-1, names)}
	case 8, 9:
		return X{Kind: 8, Op: 1 + k.Intn(12), Kids: k.trees(2, depth-1, names)}
	case 10:
		return X{Kind: 10, Kids: k.trees(1, depth-1, names)}
	case 11, 12, 13, 14:
		op := k.Intn(30)
		return X{Kind: 9, Op: op, Kids: k.trees(k.args(op), depth-1, names)}
	}
	return X{Kind: 3, A: k.area()}
}

// args tells how many args op is given, mostly as many as it takes.
func (k maker) args(op int) int {
	if k.Intn(12) == 0 {
		return k.Intn(4)
	}
	switch op {
	case 0, 1, 2, 3, 4, 11, 12, 18:
		return k.Intn(4)
	case 8, 9, 15, 16, 23, 24, 26, 27:
		return 2
	case 10, 17, 25:
		return 3
	case 28:
		return 0
	}
	return 1
}

func (k maker) trees(n, depth int, names bool) []X {
	var l []X
	for range n {
		l = append(l, k.tree(depth, names))
	}
	return l
}

// words tells e in words, for what a test says.
func words(e X, p P) string {
	s, _ := ftext.Text(e, p.At)
	return s
}

// TestP1501Model holds Eval and Array to the model.
func TestP1501Model(t *testing.T) {
	k := maker{rand.New(rand.NewSource(15))}
	kinds := map[int]int{}
	for range 4000 {
		v := k.env()
		if wrong := env.Check(v); wrong != api.OK {
			t.Fatal(wrong)
		}
		for range 20 {
			e, p := k.tree(1+k.Intn(5), true), k.place()
			if expr.Check(e) != api.OK {
				continue // it is too long
			}
			m := newModel(v, p)
			got := eval.Eval(e, v, p)
			if want := m.eval(e); got != want {
				t.Fatalf("P1501: %s at %v: %s, want %s", words(e, p), p, show(got), show(want))
			}
			rows, cols := 1+k.Intn(3), 1+k.Intn(3)
			l := eval.Array(e, v, p, rows, cols)
			if want := m.array(e, rows, cols); !slices.Equal(l, want) {
				t.Fatalf("P1501: Array of %s at %v, %d by %d:\n%s, want\n%s", words(e, p), p, rows, cols, showList(l), showList(want))
			}
			kinds[got.Kind]++
		}
	}
	for kind := 1; kind <= 4; kind++ {
		if kinds[kind] < 2000 {
			t.Errorf("too few values of Kind %d: %d", kind, kinds[kind])
		}
	}
}

// ofCell tells e with what each Area tells in one cell of an Array in its place,
// but where it is whole.
func ofCell(e X, v E, from P, rows, cols, cell int, whole bool) X {
	switch e.Kind {
	case 6:
		if e.Op < len(v.Names) {
			return ofCell(v.Names[e.Op], v, from, rows, cols, cell, whole)
		}
	case 3, 5:
		if !whole {
			return ofArea(e, from, rows, cols, cell)
		}
	}
	name, _ := fun.Name(e.Op)
	within := e.Kind == 9 && slices.Contains([]string{"SUM", "MIN", "MAX", "COUNT", "AVERAGE", "AND", "OR", "CONCAT", "INDEX"}, name)
	var kids []X
	for _, kid := range e.Kids {
		kids = append(kids, ofCell(kid, v, from, rows, cols, cell, within || e.Kind == 10 && whole))
	}
	e.Kids = kids
	return e
}

func ofArea(e X, from P, rows, cols, cell int) X {
	first, last := ref.Bounds(e.A, from.At)
	switch {
	case len(ref.Cells(e.A, from.At)) == 0:
		return X{Kind: 1, V: refE}
	case last.Row-first.Row+1 != rows || last.Col-first.Col+1 != cols:
		return X{Kind: 1, V: value}
	}
	c := ref.Cells(e.A, from.At)[cell]
	return X{Kind: e.Kind - 1, Sheet: e.Sheet, A: ref.Area{A: ref.Ref{Row: c.Row, Col: c.Col}}}
}

// TestP1501ArrayByEval holds each cell of an Array to what Eval tells at from of
// the formula with that cell's values in it.
func TestP1501ArrayByEval(t *testing.T) {
	k := maker{rand.New(rand.NewSource(16))}
	for range 2000 {
		v := k.env()
		v.Sheets = 4 // an Area of no such sheet has no cell to stand for it
		for range 10 {
			e, from, rows, cols := k.tree(1+k.Intn(5), true), k.place(), 1+k.Intn(3), 1+k.Intn(3)
			if expr.Check(e) != api.OK {
				continue
			}
			got := eval.Array(e, v, from, rows, cols)
			for cell := range rows * cols {
				alone := ofCell(e, v, from, rows, cols, cell, false)
				if expr.Check(alone) != api.OK {
					continue
				}
				if want := eval.Eval(alone, v, from); got[cell] != want {
					t.Fatalf("P1501: cell %d of %s at %v, %d by %d: %s; %s: %s", cell, words(e, from), from, rows, cols, show(got[cell]), words(alone, from), show(want))
				}
			}
		}
	}
}
