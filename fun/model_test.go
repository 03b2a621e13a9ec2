package fun_test

import (
	"math/big"
	"math/rand"
	"strings"
	"testing"
	"unicode/utf16"

	"cashbook/dec"
	"cashbook/fun"
	"cashbook/val"
)

// The model tells what the chapter asks by numbers without a bound (math/big),
// by lists of runes and by units of 16 bits.

// stop is how the model leaves where something else is told instead.
type stop struct{ v V }

// caught tells what f tells, or what stopped it.
func caught(f func() V) (out V) {
	defer func() {
		if s, is := recover().(stop); is {
			out = s.v
		}
	}()
	return f()
}

func need(good bool, v V) {
	if !good {
		panic(stop{v})
	}
}

func ratOf(v V) *big.Rat {
	d, other, ok := val.Number(v)
	need(ok, other)
	return rat(d)
}

func rat(d D) *big.Rat { return new(big.Rat).SetFrac(big.NewInt(d.M), tens(d.S)) }

func tens(n int) *big.Int { return new(big.Int).Exp(big.NewInt(10), big.NewInt(int64(n)), nil) }

func wordsOf(v V) string {
	s, other, ok := val.Words(v)
	need(ok, other)
	return s
}

func truthOf(v V) bool {
	b, other, ok := val.Truth(v)
	need(ok, other)
	return b
}

// valOf tells a number rounded to nine places, halves away from 0.
func valOf(r *big.Rat) V { return valAt(r, 9) }

// valAt tells a number rounded to so many places, with as few as it needs.
func valAt(r *big.Rat, places int) V {
	scaled := new(big.Rat).Set(r)
	if places >= 0 {
		scaled.Mul(scaled, new(big.Rat).SetInt(tens(places)))
	} else {
		scaled.Quo(scaled, new(big.Rat).SetInt(tens(-places)))
	}
	half := big.NewRat(1, 2)
	sign := scaled.Sign()
	scaled.Abs(scaled).Add(scaled, half)
	m := new(big.Int).Quo(scaled.Num(), scaled.Denom())
	if sign < 0 {
		m.Neg(m)
	}
	for ; places < 0; places++ {
		m.Mul(m, big.NewInt(10))
	}
	for ; places > 0; places-- {
		shorter, rest := new(big.Int).QuoRem(m, big.NewInt(10), new(big.Int))
		if rest.Sign() != 0 {
			break
		}
		m = shorter
	}
	need(m.IsInt64(), numE)
	return num(m.Int64(), places)
}

// mid tells r as the sums that stand between tell it: within its bounds.
func mid(r *big.Rat) *big.Rat { return rat(valOf(r).N) }

func floor(r *big.Rat) *big.Rat {
	return new(big.Rat).SetInt(new(big.Int).Div(r.Num(), r.Denom()))
}

func textVal(s string) V {
	need(len(utf16.Encode([]rune(s))) <= 1000, value)
	return text(s)
}

// wholeOf tells a whole number, least or more, else what is told instead.
func wholeOf(v V, least int64, instead V) *big.Int {
	r := ratOf(v)
	need(r.IsInt() && r.Cmp(new(big.Rat).SetInt64(least)) >= 0, instead)
	return r.Num()
}

// upTo tells n, but no more than most.
func upTo(n *big.Int, most int) int {
	if n.Cmp(big.NewInt(int64(most))) > 0 {
		return most
	}
	return int(n.Int64())
}

func oneOf(a A) V {
	need(!a.Area && len(a.L) == 1, value)
	return a.L[0]
}

// among tells whether v of an Area is one of these Kinds, or an Err.
func among(v V, kinds string) bool {
	return v.Kind == 4 || strings.Contains(kinds, []string{"blank", "num", "str", "bool"}[v.Kind])
}

// allOf tells what a function of many takes: all values, but of Areas those
// Kinds alone.
func allOf(args []A, kinds string) []V {
	var l []V
	for _, a := range args {
		if !a.Area {
			l = append(l, oneOf(a))
			continue
		}
		for _, v := range a.L {
			if among(v, kinds) {
				l = append(l, v)
			}
		}
	}
	return l
}

func shapesWanted(args []A) {
	for _, a := range args {
		need(a.Area || len(a.L) == 1, value)
	}
}

func modelMany(name string, args []A) V {
	shapesWanted(args)
	switch name {
	case "CONCAT":
		s := ""
		for _, v := range allOf(args, "blank num str bool") {
			s += wordsOf(v)
		}
		return textVal(s)
	case "AND", "OR":
		l := allOf(args, "num bool")
		found := map[bool]int{}
		for _, v := range l {
			found[truthOf(v)]++
		}
		need(len(l) > 0, value)
		if name == "AND" {
			return truth(found[true] == len(l))
		}
		return truth(found[false] < len(l))
	case "COUNT":
		n := 0
		for _, v := range allOf(args, "num") {
			if v.Kind != 4 && caught(func() V { ratOf(v); return blank }) == blank {
				n++
			}
		}
		return whole(int64(n))
	}
	var l []*big.Rat
	for _, v := range allOf(args, "num") {
		l = append(l, ratOf(v))
	}
	return modelNumbers(name, l)
}

func modelNumbers(name string, l []*big.Rat) V {
	total, lowest, highest := new(big.Rat), new(big.Rat), new(big.Rat)
	for i, r := range l {
		if i == 0 || r.Cmp(lowest) < 0 {
			lowest = r
		}
		if i == 0 || r.Cmp(highest) > 0 {
			highest = r
		}
		if name == "SUM" || name == "AVERAGE" {
			total = mid(new(big.Rat).Add(total, r))
		}
	}
	switch name {
	case "MIN":
		return valOf(lowest)
	case "MAX":
		return valOf(highest)
	case "SUM":
		return valOf(total)
	}
	need(len(l) > 0, div0)
	return valOf(total.Quo(total, big.NewRat(int64(len(l)), 1)))
}

func modelMod(a, b *big.Rat, s, t int) V {
	need(b.Sign() != 0, div0)
	all := new(big.Rat).SetInt(tens(max(s, t)))
	for _, r := range []*big.Rat{a, b} {
		need(new(big.Rat).Mul(r, all).Num().IsInt64(), numE)
	}
	q := floor(new(big.Rat).Quo(a, b))
	return valOf(new(big.Rat).Sub(a, q.Mul(q, b)))
}

// places tells how many places the number that v is has.
func places(v V) int {
	d, _, _ := val.Number(v)
	return d.S
}

func modelRound(r *big.Rat, places V) V {
	n := ratOf(places)
	need(n.IsInt() && n.Cmp(big.NewRat(-18, 1)) >= 0 && n.Cmp(big.NewRat(9, 1)) <= 0, numE)
	return valAt(r, int(n.Num().Int64()))
}

// letters tells s with those from first to last turned into those from to on.
func letters(s, first, to string) string {
	for i := range 26 {
		s = strings.ReplaceAll(s, string(rune(int(first[0])+i)), string(rune(int(to[0])+i)))
	}
	return s
}

func modelText(name string, l []V) V {
	s := wordsOf(l[0])
	runes := []rune(s)
	n := big.NewInt(1)
	switch name {
	case "LEN":
		units := len(utf16.Encode(runes))
		return whole(int64(units))
	case "UPPER":
		return textVal(letters(s, "a", "A"))
	case "LOWER":
		return textVal(letters(s, "A", "a"))
	case "EXACT":
		return truth(s == wordsOf(l[1]))
	case "REPT":
		n = wholeOf(l[1], 0, value)
		return textVal(strings.Repeat(s, upTo(n, 1001)))
	case "MID":
		at := upTo(wholeOf(l[1], 1, value), len(runes)+1)
		n = wholeOf(l[2], 0, value)
		runes = runes[at-1:]
		return textVal(string(runes[:upTo(n, len(runes))]))
	}
	if len(l) > 1 {
		n = wholeOf(l[1], 0, value)
	}
	if name == "LEFT" {
		return textVal(string(runes[:upTo(n, len(runes))]))
	}
	return textVal(string(runes[len(runes)-upTo(n, len(runes)):]))
}

func modelOf(name string, l []V) V {
	switch name {
	case "ABS":
		return valOf(new(big.Rat).Abs(ratOf(l[0])))
	case "SIGN":
		return whole(int64(ratOf(l[0]).Sign()))
	case "INT":
		return valOf(floor(ratOf(l[0])))
	case "MOD":
		return modelMod(ratOf(l[0]), ratOf(l[1]), places(l[0]), places(l[1]))
	case "ROUND":
		return modelRound(ratOf(l[0]), l[1])
	case "NOT":
		return truth(!truthOf(l[0]))
	case "ISBLANK":
		return truth(l[0] == blank)
	case "ISERROR":
		return truth(strings.HasPrefix(val.Text(l[0]), "#") && l[0].Kind != 2)
	case "NA":
		return na
	case "TYPE":
		return whole([]int64{1, 1, 2, 4, 16}[l[0].Kind])
	}
	return modelText(name, l)
}

func modelChoice(name string, args []A) V {
	first := oneOf(args[0])
	switch name {
	case "IF":
		if truthOf(first) {
			return oneOf(args[1])
		}
		if len(args) == 2 {
			return no
		}
		return oneOf(args[2])
	case "IFERROR":
		if first.Kind == 4 {
			return oneOf(args[1])
		}
		return first
	}
	n := wholeOf(first, 1, value)
	need(n.Cmp(big.NewInt(int64(len(args)))) < 0, value)
	return oneOf(args[n.Int64()])
}

func modelIndex(args []A) V {
	need(args[0].Area, value)
	r := ratOf(oneOf(args[1]))
	need(r.IsInt(), value)
	l := args[0].L
	need(r.Sign() > 0 && r.Cmp(big.NewRat(int64(len(l)), 1)) <= 0, refE)
	return l[r.Num().Int64()-1]
}

func has(l []string, s string) bool { return strings.Contains(" "+strings.Join(l, " ")+" ", " "+s+" ") }

// model tells what Apply is to tell.
func model(op int, args []A) V {
	return caught(func() V {
		f := table[op]
		need(len(args) >= f.least && (f.most < 0 || len(args) <= f.most), value)
		switch {
		case has(ofMany, f.name):
			return modelMany(f.name, args)
		case has(ofChoice, f.name):
			return modelChoice(f.name, args)
		case f.name == "INDEX":
			return modelIndex(args)
		}
		var l []V
		for _, a := range args {
			l = append(l, oneOf(a))
		}
		return modelOf(f.name, l)
	})
}

// modelUnary tells what Unary is to tell.
func modelUnary(op int, a V) V {
	return caught(func() V {
		switch op {
		case 1:
			return valOf(new(big.Rat).Neg(ratOf(a)))
		case 2:
			return a
		case 3:
			return valOf(new(big.Rat).Quo(ratOf(a), big.NewRat(100, 1)))
		}
		return value
	})
}

func modelPower(a, b *big.Rat) V {
	need(b.IsInt() && b.Cmp(big.NewRat(-64, 1)) >= 0 && b.Cmp(big.NewRat(64, 1)) <= 0, numE)
	n := b.Num().Int64()
	p := big.NewRat(1, 1)
	for range max(n, -n) {
		p = mid(p.Mul(p, a))
	}
	if n < 0 {
		need(p.Sign() != 0, div0)
		p.Inv(p)
	}
	return valOf(p)
}

// modelBinary tells what Binary is to tell.
func modelBinary(op int, a, b V) V {
	return caught(func() V {
		need(a.Kind != 4, a)
		need(b.Kind != 4, b)
		if op >= 7 && op <= 12 {
			way := val.Compare(a, b)
			return truth([]bool{way == 0, way != 0, way == -1, way != 1, way == 1, way != -1}[op-7])
		}
		if op == 6 {
			return textVal(wordsOf(a) + wordsOf(b))
		}
		need(op >= 1 && op <= 5, value)
		x, y := ratOf(a), ratOf(b)
		switch op {
		case 1:
			return valOf(x.Add(x, y))
		case 2:
			return valOf(x.Sub(x, y))
		case 3:
			return valOf(x.Mul(x, y))
		case 4:
			need(y.Sign() != 0, div0)
			return valOf(x.Quo(x, y))
		}
		return modelPower(x, y)
	})
}

// pool tells values of all Kinds, many of them at an edge.
func pool() []V {
	l := []V{blank, yes, no}
	l = append(l, faults...)
	for _, m := range []int64{0, 1, -1, 2, -2, 3, 5, -7, 9, -9, 10, 63, 64, 65, -64, -65, 100, 999, 1000, 1001, 1 << 32, 1<<32 + 1, 1 << 62, most, most - 1, least, least + 1} {
		for _, s := range []int{0, 1, 2, 5, 8, 9} {
			if d := (D{M: m, S: s}); dec.Check(d) == 0 {
				l = append(l, V{Kind: 1, N: d})
			}
		}
	}
	for _, s := range []string{
		"", " ", "0", "1", "2", "-1", "1.5", "-0.5", "12", "01", "1.0", "+1", "1e1", "9223372036854775807", "9223372036854775808", "-9223372036854775808", "-9223372036854775809",
		"TRUE", "FALSE", "true", "True", "a", "A", "aZ", "abc", "ABCxyz", "@[`{", "\u00E9\u00C9", "\u0131\u0130\u017F\u212A", "\u20AC", "\U0001F600", "a\U0001F600b\u20ACc", "\U0001F600\U0001F600\U0001F600", "e\u0301", "#N/A", "#VALUE!", "\uFFFD", "\x00",
		strings.Repeat("a", 499), strings.Repeat("\U0001F600", 250), strings.Repeat("b", 500), strings.Repeat("\u20AC", 501), strings.Repeat("z", 999), strings.Repeat("Z", 1000), strings.Repeat("\U0001F600", 500),
	} {
		l = append(l, text(s))
	}
	return l
}

func TestP1102AgainstTheModel(t *testing.T) {
	l := pool()
	for _, a := range l {
		for op := -2; op <= 8; op++ {
			if got, want := fun.Unary(op, a), modelUnary(op, a); !val.Same(got, want) {
				t.Fatalf("P1102: Unary(%d, %s): %s, want %s", op, show(a), show(got), show(want))
			}
		}
		for _, b := range l {
			for op := -1; op <= 14; op++ {
				if got, want := fun.Binary(op, a, b), modelBinary(op, a, b); !val.Same(got, want) {
					t.Fatalf("P1102: Binary(%d, %s, %s): %s, want %s", op, show(a), show(b), show(got), show(want))
				}
			}
		}
	}
}

// TestP1103OfPairsAgainstTheModel goes through all functions of one and of two
// values.
func TestP1103OfPairsAgainstTheModel(t *testing.T) {
	l := pool()
	for op, f := range table {
		for _, a := range l {
			agree(t, op, ones(a))
			for _, b := range l {
				agree(t, op, ones(a, b))
				if f.name == "INDEX" || has(ofMany, f.name) {
					agree(t, op, []A{area(a, b), bare(b)})
					agree(t, op, []A{area(a), area(b)})
				}
			}
		}
	}
}

func agree(t *testing.T, op int, args []A) {
	t.Helper()
	if got, want := fun.Apply(op, args), model(op, args); !val.Same(got, want) {
		t.Fatalf("P1103: %s%s: %s, want %s", table[op].name, showArgs(args), show(got), show(want))
	}
}

// TestP1103OfManyArgs holds all functions against the model by args of a row of
// numbers that is always the same.
func TestP1103OfManyArgs(t *testing.T) {
	r := rand.New(rand.NewSource(11))
	l := pool()
	var plain []V
	for _, v := range l {
		if v.Kind != 4 && len(v.S) < 30 {
			plain = append(plain, v)
		}
	}
	some := func() V {
		switch r.Intn(8) {
		case 0:
			return l[r.Intn(len(l))]
		case 1, 2, 3:
			return whole(int64(r.Intn(8)) - 1)
		}
		return plain[r.Intn(len(plain))]
	}
	seen := map[int]int{}
	for range 400000 {
		op := r.Intn(len(table))
		args := make([]A, max(0, table[op].least+r.Intn(6)/2-r.Intn(8)/7))
		for i := range args {
			args[i] = fun.One(some())
			n := r.Intn(12)
			if n < 3 || table[op].name == "INDEX" && i == 0 && n < 8 {
				args[i] = A{Area: n > 0}
				for range r.Intn(5) {
					args[i].L = append(args[i].L, some())
				}
			}
		}
		agree(t, op, args)
		if fun.Apply(op, args).Kind != 4 {
			seen[op]++
		}
	}
	for op, f := range table {
		if seen[op] < 200 && f.name != "NA" {
			t.Errorf("the args have only %d that %s takes", seen[op], f.name)
		}
	}
}
