package fun_test

import (
	"strings"
	"testing"

	"cashbook/fun"
	"cashbook/val"
)

func TestP1103Sum(t *testing.T) {
	check(t, "P1103", "SUM", []row{
		{nil, whole(0)},
		{[]A{area()}, whole(0)},
		{ones(whole(1), whole(2), num(35, 1)), num(65, 1)},
		{ones(num(15, 1), num(5, 1)), whole(2)},
		{ones(blank), whole(0)},
		{ones(yes, text("2"), blank, no), whole(3)},
		{ones(whole(1), text("a")), value},
		{ones(text("TRUE")), value},
		{ones(whole(1), na), na},
		{ones(text("a"), na), value}, // the first from the left
		{ones(na, text("a")), na},
		{ones(refE, na), refE},
		// in Areas Nums alone
		{[]A{area(whole(1), yes, text("2"), blank, text("a"), whole(4))}, whole(5)},
		{[]A{area(text("2"), no)}, whole(0)},
		{[]A{area(whole(1), text("a"), nameE, na)}, nameE},
		{[]A{area(text("a")), bare(na)}, na},
		{[]A{area(whole(1), whole(2)), bare(text("3")), area(whole(4), text("5"))}, whole(10)},
		{[]A{area(whole(1), div0), bare(na)}, div0},
		{[]A{bare(na), area(div0)}, na},
		// one by one
		{ones(whole(most), whole(1)), numE},
		{ones(whole(most), whole(1), whole(-1)), numE},
		{ones(whole(most), whole(-1), whole(1)), whole(most)},
		{ones(whole(-1), whole(1), whole(most)), whole(most)},
		{[]A{area(whole(least)), bare(whole(-1)), bare(whole(1))}, numE},
		{ones(whole(most), num(1, 9), num(-1, 9)), numE},
		// too great a sum only where all are numbers
		{ones(whole(most), whole(1), na), na},
		{ones(whole(most), na, whole(1)), na},
		{ones(whole(most), whole(1), text("x")), value},
		{ones(whole(most), whole(1), text("x"), na), value},
		{ones(whole(most), whole(1), whole(2), na), na},
		{[]A{area(whole(most), whole(1), na)}, na},
		{[]A{area(whole(most), whole(1), text("x"), na)}, na},
		{[]A{area(whole(most), whole(1), text("x"))}, numE},
		{[]A{area(whole(most), whole(1)), bare(div0)}, div0},
		{[]A{bare(whole(most)), bare(whole(1)), area(blank, refE), bare(na)}, refE},
		{[]A{area(whole(least), whole(-1)), area(), bare(text("1")), bare(text("x"))}, value},
	})
}

func TestP1103MinAndMax(t *testing.T) {
	check(t, "P1103", "MIN", []row{
		{nil, whole(0)},
		{[]A{area()}, whole(0)},
		{[]A{area(text("a"), yes, blank)}, whole(0)},
		{ones(whole(3), num(25, 1), whole(4)), num(25, 1)},
		{ones(whole(3), whole(5)), whole(3)}, // not the 0 of none
		{ones(whole(-3), whole(5)), whole(-3)},
		{ones(whole(3), blank), whole(0)},
		{ones(yes, whole(2)), whole(1)},
		{ones(text("7"), whole(8)), whole(7)},
		{ones(text("a"), whole(8)), value},
		{ones(whole(8), na, text("a")), na},
		{ones(whole(most), whole(least)), whole(least)},
		{[]A{area(whole(9), no, text("1"), blank, whole(8))}, whole(8)},
		{[]A{area(whole(9), no), bare(no)}, whole(0)},
		{[]A{area(whole(9), na)}, na},
	})
	check(t, "P1103", "MAX", []row{
		{nil, whole(0)},
		{[]A{area()}, whole(0)},
		{[]A{area(text("a"), yes, blank)}, whole(0)},
		{ones(whole(3), num(45, 1), whole(4)), num(45, 1)},
		{ones(whole(-3), whole(-5)), whole(-3)},
		{ones(whole(-3), blank), whole(0)},
		{ones(yes, whole(-2)), whole(1)},
		{ones(text("7"), whole(6)), whole(7)},
		{ones(text("a"), whole(8)), value},
		{ones(whole(8), na, text("a")), na},
		{ones(whole(least), whole(most)), whole(most)},
		{[]A{area(whole(-9), no, text("1"), blank, whole(-8))}, whole(-8)},
		{[]A{area(whole(-9), yes), bare(no)}, whole(0)},
		{[]A{area(whole(9), na)}, na},
	})
}

func TestP1103Count(t *testing.T) {
	check(t, "P1103", "COUNT", []row{
		{nil, whole(0)},
		{[]A{area()}, whole(0)},
		{ones(whole(1)), whole(1)},
		{ones(blank), whole(1)},
		{[]A{area(blank)}, whole(0)},
		{ones(yes, no, blank, text("5"), num(15, 1)), whole(5)},
		{ones(text("a"), text(""), text("TRUE"), text("01")), whole(0)},
		{ones(na, whole(1), div0, value), whole(1)},
		{[]A{area(yes, no, blank, text("5"), num(15, 1), na)}, whole(1)},
		{[]A{area(whole(1), na, whole(2)), bare(na), bare(text("3"))}, whole(3)},
		{ones(whole(most), whole(most)), whole(2)},
	})
}

func TestP1103Average(t *testing.T) {
	check(t, "P1103", "AVERAGE", []row{
		{nil, div0},
		{[]A{area()}, div0},
		{[]A{area(text("1"), yes, blank)}, div0},
		{ones(whole(1), whole(2)), num(15, 1)},
		{ones(whole(1), whole(1), whole(2)), num(1333333333, 9)},
		{ones(whole(-1), whole(-1), whole(0)), num(-666666667, 9)},
		{ones(whole(4), blank), whole(2)},
		{[]A{area(whole(4), blank)}, whole(4)},
		{[]A{area(whole(4), text("a"), yes), bare(yes)}, num(25, 1)},
		{ones(whole(4), text("a")), value},
		{ones(whole(4), na), na},
		{[]A{area(whole(4), na)}, na},
		{ones(whole(most), whole(most)), numE},
		{ones(whole(most)), whole(most)},
		{ones(whole(most), whole(1), whole(-1)), numE},
		// too great a sum only where all are numbers
		{ones(whole(most), whole(most), na), na},
		{ones(whole(most), whole(most), text("x")), value},
		{ones(whole(most), whole(most), text("x"), na), value},
		{[]A{area(whole(most), whole(most), na)}, na},
		{[]A{area(whole(most), whole(most), text("x"))}, numE},
		{[]A{area(whole(least), whole(-1)), bare(div0), bare(na)}, div0},
	})
}

// TestP1103FaultsAheadOfWhatIsReckoned holds each function of many to its first
// fault, however much is reckoned of what stands ahead of it.
func TestP1103FaultsAheadOfWhatIsReckoned(t *testing.T) {
	long := text(strings.Repeat("1", 1000))
	heads := map[string][]V{
		"SUM": {whole(most), whole(most), whole(least), whole(-1)}, "AVERAGE": {whole(most), whole(most), whole(least)},
		"MIN": {whole(least), whole(most)}, "MAX": {whole(most), whole(least)},
		"AND": {no, no, yes}, "OR": {yes, yes, no},
		"CONCAT": {long, long, whole(1), long, long, long, long, long},
	}
	for _, name := range ofMany {
		head, is := heads[name]
		if !is {
			continue // COUNT takes an Err for none
		}
		for _, f := range faults {
			for ahead := range len(head) + 1 {
				l := append(append(append([]V{}, head[:ahead]...), f), head[ahead:]...)
				l = append(l, div0)
				check(t, "P1103", name, []row{
					{ones(l...), f},
					{[]A{area(l...)}, f},
					{[]A{area(l[:ahead]...), area(l[ahead:]...)}, f},
					{append(ones(l[:ahead]...), area(l[ahead:]...)), f},
				})
			}
		}
	}
}

func TestP1103NumbersOfOne(t *testing.T) {
	check(t, "P1103", "ABS", []row{
		{ones(whole(5)), whole(5)},
		{ones(num(-25, 1)), num(25, 1)},
		{ones(whole(0)), whole(0)},
		{ones(whole(most)), whole(most)},
		{ones(whole(-most)), whole(most)},
		{ones(whole(least)), numE},
		{ones(num(least, 9)), numE},
		{ones(blank), whole(0)},
		{ones(yes), whole(1)},
		{ones(text("-3")), whole(3)},
		{ones(text("a")), value},
		{ones(na), na},
	})
	check(t, "P1103", "SIGN", []row{
		{ones(whole(5)), whole(1)},
		{ones(num(1, 9)), whole(1)},
		{ones(whole(0)), whole(0)},
		{ones(num(-1, 9)), whole(-1)},
		{ones(whole(least)), whole(-1)},
		{ones(whole(1 << 32)), whole(1)},
		{ones(blank), whole(0)},
		{ones(text("-3")), whole(-1)},
		{ones(text("a")), value},
		{ones(na), na},
	})
	check(t, "P1103", "INT", []row{
		{ones(num(19, 1)), whole(1)},
		{ones(num(-11, 1)), whole(-2)},
		{ones(num(-1, 9)), whole(-1)},
		{ones(whole(-2)), whole(-2)},
		{ones(whole(least)), whole(least)},
		{ones(blank), whole(0)},
		{ones(yes), whole(1)},
		{ones(text("2.5")), whole(2)},
		{ones(text("a")), value},
		{ones(na), na},
	})
}

func TestP1103Mod(t *testing.T) {
	check(t, "P1103", "MOD", []row{
		{ones(whole(7), whole(3)), whole(1)},
		{ones(whole(-7), whole(3)), whole(2)},
		{ones(whole(7), whole(-3)), whole(-2)},
		{ones(whole(-7), whole(-3)), whole(-1)},
		{ones(whole(6), whole(3)), whole(0)},
		{ones(whole(-6), whole(3)), whole(0)},
		{ones(whole(6), whole(-3)), whole(0)},
		{ones(whole(0), whole(-3)), whole(0)},
		{ones(num(75, 1), whole(2)), num(15, 1)},
		{ones(num(-75, 1), whole(2)), num(5, 1)},
		{ones(whole(1), num(3, 1)), num(1, 1)},
		{ones(whole(-1), num(3, 1)), num(2, 1)},
		{ones(num(1, 9), whole(-1)), num(-999999999, 9)},
		{ones(num(12, 1), num(3, 1)), whole(0)},
		{ones(num(25, 1), num(15, 1)), whole(1)}, // with no place left
		{ones(num(1, 9), num(3, 9)), num(1, 9)},
		// exactly: the quotient has more than nine places, or more than 64 bits
		{ones(whole(10), num(3, 9)), num(1, 9)},
		{ones(whole(2000000000), whole(2000000001)), whole(2000000000)},
		{ones(num(9999999999999999, 9), whole(10000000)), num(9999999999999999, 9)},
		{ones(whole(-1), whole(most)), whole(most - 1)},
		{ones(whole(1), whole(least)), whole(least + 1)},
		{ones(whole(most), whole(least)), whole(-1)},
		{ones(whole(least), whole(most)), whole(most - 1)},
		{ones(whole(least), whole(-1)), whole(0)},
		{ones(whole(least), whole(least)), whole(0)},
		{ones(num(most, 9), num(least, 9)), num(-1, 9)},
		{ones(whole(7), whole(0)), div0},
		{ones(whole(0), whole(0)), div0},
		{ones(whole(most), blank), div0},
		{ones(num(1, 9), no), div0},
		// with as many places as the other one
		{ones(whole(9223372036), num(1, 9)), whole(0)},
		{ones(whole(9223372037), num(1, 9)), numE},
		{ones(whole(-9223372036), num(1, 9)), whole(0)},
		{ones(whole(-9223372037), num(1, 9)), numE},
		{ones(num(1, 9), whole(9223372036)), num(1, 9)},
		{ones(num(1, 9), whole(9223372037)), numE},
		{ones(num(-1, 9), whole(-9223372037)), numE},
		{ones(whole(most), num(5, 1)), numE},
		{ones(num(5, 1), whole(least)), numE},
		{ones(whole(922337203685477580), num(5, 1)), whole(0)},
		{ones(whole(922337203685477581), num(5, 1)), numE},
		{ones(whole(0), num(1, 9)), whole(0)},
		// of values
		{ones(text("7"), yes), whole(0)},
		{ones(blank, whole(3)), whole(0)},
		{ones(text("a"), whole(0)), value},
		{ones(whole(1), text("a")), value},
		{ones(na, div0), na},
		{ones(whole(1), div0), div0},
		{ones(text("a"), na), value},
		{ones(na, text("a")), na},
	})
}

func TestP1103Round(t *testing.T) {
	check(t, "P1103", "ROUND", []row{
		{ones(num(125, 2), whole(1)), num(13, 1)},
		{ones(num(-125, 2), whole(1)), num(-13, 1)},
		{ones(num(124, 2), whole(1)), num(12, 1)},
		{ones(num(5, 1), whole(0)), whole(1)},
		{ones(num(5, 1), blank), whole(1)},
		{ones(whole(1250), whole(-2)), whole(1300)},
		{ones(whole(1249), whole(-2)), whole(1200)},
		{ones(num(123456789, 9), whole(9)), num(123456789, 9)},
		{ones(whole(most), whole(-18)), whole(9000000000000000000)},
		{ones(whole(most), whole(-1)), numE},
		{ones(whole(5), whole(10)), numE},
		{ones(whole(5), whole(-19)), numE},
		{ones(whole(5), whole(most)), numE},
		{ones(whole(5), whole(least)), numE},
		{ones(whole(5), whole(1<<32)), numE},
		{ones(whole(5), num(5, 1)), numE},
		{ones(whole(5), num(15, 1)), numE},
		{ones(whole(5), num(-1, 9)), numE},
		{ones(num(15, 1), yes), num(15, 1)},
		{ones(text("1.26"), text("1")), num(13, 1)},
		{ones(whole(5), text("a")), value},
		{ones(text("a"), num(5, 1)), value},
		{ones(na, num(5, 1)), na},
		{ones(whole(5), na), na},
		{ones(text("a"), na), value},
		{ones(na, text("a")), na},
	})
}

func TestP1103If(t *testing.T) {
	a, b := text("a"), text("b")
	check(t, "P1103", "IF", []row{
		{ones(yes, a, b), a},
		{ones(no, a, b), b},
		{ones(yes, a), a},
		{ones(no, a), no},
		{ones(blank, a), no},
		{ones(whole(0), a, b), b},
		{ones(num(1, 9), a, b), a},
		{ones(whole(-1), a, b), a},
		{ones(text("TRUE"), a, b), a},
		{ones(text("FALSE"), a, b), b},
		{ones(text("true"), a, b), value},
		{ones(text("1"), a, b), value},
		{ones(text(""), a, b), value},
		{ones(na, a, b), na},
		{ones(na, div0, refE), na},
		// whatever that is
		{ones(yes, na, b), na},
		{ones(no, na, b), b},
		{ones(no, a, na), na},
		{ones(yes, blank, b), blank},
		{ones(no, a, blank), blank},
		{ones(yes, yes, b), yes},
		{ones(yes, num(-15, 1), b), num(-15, 1)},
	})
}

func TestP1103AndAndOr(t *testing.T) {
	check(t, "P1103", "AND", []row{
		{nil, value},
		{[]A{area()}, value},
		{[]A{area(blank, text("TRUE"))}, value},
		{ones(yes), yes},
		{ones(yes, yes), yes},
		{ones(yes, no), no},
		{ones(no, yes), no},
		{ones(no, no), no},
		{ones(whole(1), num(-5, 1), text("TRUE")), yes},
		{ones(whole(1), whole(0)), no},
		{ones(blank), no},
		{ones(yes, blank), no},
		{ones(yes, text("FALSE")), no},
		{ones(yes, text("a")), value},
		{ones(no, text("a")), value}, // all are asked
		{ones(no, na), na},
		{ones(text("a"), na), value},
		{ones(na, text("a")), na},
		{[]A{area(yes, whole(2), blank, text("FALSE"), text("a"))}, yes},
		{[]A{area(yes, whole(0))}, no},
		{[]A{area(no, blank)}, no},
		{[]A{area(no, na)}, na},
		{[]A{area(blank), bare(yes)}, yes},
		{[]A{area(yes), bare(blank)}, no},
		{[]A{area(yes, refE), bare(na)}, refE},
	})
	check(t, "P1103", "OR", []row{
		{nil, value},
		{[]A{area()}, value},
		{[]A{area(blank, text("TRUE"))}, value},
		{ones(yes), yes},
		{ones(no), no},
		{ones(yes, no), yes},
		{ones(no, yes), yes},
		{ones(no, no), no},
		{ones(whole(0), num(-5, 1)), yes},
		{ones(whole(0), text("FALSE"), blank), no},
		{ones(no, text("TRUE")), yes},
		{ones(blank), no},
		{ones(yes, text("a")), value},
		{ones(yes, na), na},
		{ones(text("a"), na), value},
		{ones(na, text("a")), na},
		{[]A{area(no, whole(0), blank, text("TRUE"), text("a"))}, no},
		{[]A{area(no, whole(2))}, yes},
		{[]A{area(yes, na)}, na},
		{[]A{area(blank), bare(no)}, no},
	})
}

func TestP1103Not(t *testing.T) {
	check(t, "P1103", "NOT", []row{
		{ones(yes), no},
		{ones(no), yes},
		{ones(whole(0)), yes},
		{ones(whole(-2)), no},
		{ones(blank), yes},
		{ones(text("TRUE")), no},
		{ones(text("FALSE")), yes},
		{ones(text("")), value},
		{ones(text("0")), value},
		{ones(na), na},
	})
}

func TestP1103Len(t *testing.T) {
	check(t, "P1103", "LEN", []row{
		{ones(text("")), whole(0)},
		{ones(text("abc")), whole(3)},
		{ones(text("\u00E9\u20AC")), whole(2)},
		{ones(text("a\U0001F600")), whole(3)}, // units, not runes
		{ones(text(strings.Repeat("\U0001F600", 500))), whole(1000)},
		{ones(text(strings.Repeat("\u20AC", 1000))), whole(1000)},
		{ones(num(-15, 1)), whole(4)},
		{ones(yes), whole(4)},
		{ones(no), whole(5)},
		{ones(blank), whole(0)},
		{ones(na), na},
	})
}

func TestP1103LeftAndRight(t *testing.T) {
	mixed := text("a\U0001F600\u20ACb")
	check(t, "P1103", "LEFT", []row{
		{ones(mixed), text("a")},
		{ones(mixed, whole(0)), text("")},
		{ones(mixed, whole(1)), text("a")},
		{ones(mixed, whole(2)), text("a\U0001F600")}, // runes, not units
		{ones(mixed, whole(3)), text("a\U0001F600\u20AC")},
		{ones(mixed, whole(4)), mixed},
		{ones(mixed, whole(5)), mixed},
		{ones(mixed, whole(most)), mixed},
		{ones(mixed, whole(1<<32)), mixed},
		{ones(mixed, whole(-1)), value},
		{ones(mixed, whole(least)), value},
		{ones(mixed, num(15, 1)), value},
		{ones(mixed, num(-5, 1)), value},
		{ones(mixed, yes), text("a")},
		{ones(mixed, blank), text("")},
		{ones(mixed, text("2")), text("a\U0001F600")},
		{ones(mixed, text("a")), value},
		{ones(mixed, na), na},
		{ones(na, text("a")), na},
		{ones(na, whole(-1)), na},
		{ones(na), na},
		{ones(text("")), text("")},
		{ones(text(""), whole(3)), text("")},
		{ones(blank), text("")},
		{ones(num(-15, 1), whole(3)), text("-1.")},
		{ones(yes, whole(2)), text("TR")},
	})
	check(t, "P1103", "RIGHT", []row{
		{ones(mixed), text("b")},
		{ones(mixed, whole(0)), text("")},
		{ones(mixed, whole(1)), text("b")},
		{ones(mixed, whole(2)), text("\u20ACb")},
		{ones(mixed, whole(3)), text("\U0001F600\u20ACb")},
		{ones(mixed, whole(4)), mixed},
		{ones(mixed, whole(5)), mixed},
		{ones(mixed, whole(most)), mixed},
		{ones(mixed, whole(1<<32)), mixed},
		{ones(mixed, whole(-1)), value},
		{ones(mixed, whole(least)), value},
		{ones(mixed, num(15, 1)), value},
		{ones(mixed, yes), text("b")},
		{ones(mixed, blank), text("")},
		{ones(mixed, text("2")), text("\u20ACb")},
		{ones(mixed, text("a")), value},
		{ones(mixed, na), na},
		{ones(na, text("a")), na},
		{ones(na, whole(-1)), na},
		{ones(na), na},
		{ones(text("")), text("")},
		{ones(text(""), whole(3)), text("")},
		{ones(blank), text("")},
		{ones(num(-15, 1), whole(3)), text("1.5")},
		{ones(no, whole(2)), text("SE")},
	})
}

func TestP1103Mid(t *testing.T) {
	mixed := text("a\U0001F600\u20ACb")
	check(t, "P1103", "MID", []row{
		{ones(mixed, whole(1), whole(1)), text("a")},
		{ones(mixed, whole(2), whole(1)), text("\U0001F600")},
		{ones(mixed, whole(2), whole(2)), text("\U0001F600\u20AC")},
		{ones(mixed, whole(4), whole(1)), text("b")},
		{ones(mixed, whole(1), whole(0)), text("")},
		{ones(mixed, whole(1), whole(4)), mixed},
		{ones(mixed, whole(1), whole(most)), mixed},
		{ones(mixed, whole(3), whole(most)), text("\u20ACb")},
		{ones(mixed, whole(5), whole(1)), text("")},
		{ones(mixed, whole(6), whole(1)), text("")},
		{ones(mixed, whole(most), whole(most)), text("")},
		{ones(mixed, whole(1<<32+1), whole(1)), text("")},
		{ones(mixed, whole(0), whole(1)), value},
		{ones(mixed, blank, whole(1)), value},
		{ones(mixed, whole(-1), whole(1)), value},
		{ones(mixed, whole(least), whole(1)), value},
		{ones(mixed, num(15, 1), whole(1)), value},
		{ones(mixed, whole(1), whole(-1)), value},
		{ones(mixed, whole(1), whole(least)), value},
		{ones(mixed, whole(1), num(5, 1)), value},
		{ones(mixed, whole(9), whole(-1)), value},
		{ones(mixed, yes, text("2")), text("a\U0001F600")},
		{ones(mixed, text("a"), whole(1)), value},
		{ones(mixed, whole(1), text("a")), value},
		// the first from the left
		{ones(na, whole(0), div0), na},
		{ones(na, refE, div0), na},
		{ones(mixed, refE, div0), refE},
		{ones(mixed, text("a"), div0), value},
		{ones(mixed, whole(1), div0), div0},
		{ones(mixed, whole(0), div0), value},
		{ones(mixed, num(15, 1), div0), value},
		{ones(mixed, div0, whole(-1)), div0},
		{ones(num(-125, 2), whole(2), whole(2)), text("1.")},
		{ones(blank, whole(1), whole(1)), text("")},
	})
}

func TestP1103Concat(t *testing.T) {
	many := strings.Repeat("a", 999)
	check(t, "P1103", "CONCAT", []row{
		{nil, text("")},
		{[]A{area()}, text("")},
		{ones(text("a")), text("a")},
		{ones(text("a"), whole(1), yes, blank, num(-15, 1), no), text("a1TRUE-1.5FALSE")},
		{[]A{area(text("a"), whole(1), yes, blank, num(-15, 1), no)}, text("a1TRUE-1.5FALSE")},
		{[]A{area(text("a"), text("b")), bare(text("c")), area(text("d")), area(blank)}, text("abcd")},
		{ones(text("a"), na, div0), na},
		{[]A{area(text("a"), div0), bare(na)}, div0},
		{ones(text(many), text("b")), text(many + "b")},
		{ones(text(many), blank, text("b"), text("")), text(many + "b")},
		{ones(text(many), text("bc")), value},
		{ones(text(many), text("\U0001F600")), value},
		{[]A{area(text(many), whole(10))}, value},
		{ones(text(many), text(many), na), na},
		{ones(text(strings.Repeat("\u20AC", 400)), text(strings.Repeat("\u20AC", 600))), text(strings.Repeat("\u20AC", 1000))},
		{ones(text(strings.Repeat("\U0001F600", 400)), text(strings.Repeat("\U0001F600", 100))), text(strings.Repeat("\U0001F600", 500))},
		{ones(text(strings.Repeat("\U0001F600", 400)), text(strings.Repeat("\U0001F600", 101))), value},
	})
}

func TestP1103UpperAndLower(t *testing.T) {
	check(t, "P1103", "UPPER", []row{
		{ones(text("abcxyzABCXYZ019")), text("ABCXYZABCXYZ019")},
		{ones(text("@[`{")), text("@[`{")},
		{ones(text("\u00E9\u00DF\u0131\u017F\u01C6\uFF41\U00010428")), text("\u00E9\u00DF\u0131\u017F\u01C6\uFF41\U00010428")},
		{ones(text("")), text("")},
		{ones(blank), text("")},
		{ones(whole(-1)), text("-1")},
		{ones(yes), text("TRUE")},
		{ones(na), na},
		{ones(text(strings.Repeat("a", 1000))), text(strings.Repeat("A", 1000))},
	})
	check(t, "P1103", "LOWER", []row{
		{ones(text("abcxyzABCXYZ019")), text("abcxyzabcxyz019")},
		{ones(text("@[`{")), text("@[`{")},
		{ones(text("\u00C9\u0130\u212A\u01C4\uFF21\U00010400")), text("\u00C9\u0130\u212A\u01C4\uFF21\U00010400")},
		{ones(text("")), text("")},
		{ones(blank), text("")},
		{ones(num(15, 1)), text("1.5")},
		{ones(yes), text("true")},
		{ones(no), text("false")},
		{ones(na), na},
		{ones(text(strings.Repeat("A", 1000))), text(strings.Repeat("a", 1000))},
	})
}

func TestP1103IsBlankIsErrorType(t *testing.T) {
	for _, c := range []struct {
		v     V
		blank V
		wrong V
		kind  int64
	}{
		{blank, yes, no, 1},
		{whole(0), no, no, 1},
		{num(-15, 1), no, no, 1},
		{text(""), no, no, 2},
		{text("#N/A"), no, no, 2},
		{no, no, no, 4},
		{yes, no, no, 4},
		{null, no, yes, 16},
		{div0, no, yes, 16},
		{value, no, yes, 16},
		{refE, no, yes, 16},
		{nameE, no, yes, 16},
		{numE, no, yes, 16},
		{na, no, yes, 16},
	} {
		check(t, "P1103", "ISBLANK", []row{{ones(c.v), c.blank}})
		check(t, "P1103", "ISERROR", []row{{ones(c.v), c.wrong}})
		check(t, "P1103", "TYPE", []row{{ones(c.v), whole(c.kind)}})
	}
}

func TestP1103IfError(t *testing.T) {
	for _, a := range []V{blank, whole(0), num(15, 1), text(""), text("#N/A"), no, yes} {
		check(t, "P1103", "IFERROR", []row{{ones(a, text("b")), a}, {ones(a, na), a}})
		for _, f := range faults {
			check(t, "P1103", "IFERROR", []row{{ones(f, a), a}, {ones(f, na), na}, {ones(f, div0), div0}})
		}
	}
}

func TestP1103Index(t *testing.T) {
	l := area(whole(5), text("b"), blank, na, yes)
	check(t, "P1103", "INDEX", []row{
		{[]A{l, bare(whole(1))}, whole(5)},
		{[]A{l, bare(whole(2))}, text("b")},
		{[]A{l, bare(whole(3))}, blank},
		{[]A{l, bare(whole(4))}, na},
		{[]A{l, bare(whole(5))}, yes},
		{[]A{l, bare(whole(6))}, refE},
		{[]A{l, bare(whole(0))}, refE},
		{[]A{l, bare(whole(-1))}, refE},
		{[]A{l, bare(whole(most))}, refE},
		{[]A{l, bare(whole(least))}, refE},
		{[]A{l, bare(whole(1<<32 + 1))}, refE},
		{[]A{l, bare(num(15, 1))}, value},
		{[]A{l, bare(num(95, 1))}, value},
		{[]A{l, bare(num(-5, 1))}, value},
		{[]A{l, bare(yes)}, whole(5)},
		{[]A{l, bare(blank)}, refE},
		{[]A{l, bare(text("2"))}, text("b")},
		{[]A{l, bare(text("a"))}, value},
		{[]A{l, bare(div0)}, div0},
		{[]A{area(whole(7)), bare(whole(1))}, whole(7)},
		{[]A{area(), bare(whole(1))}, refE},
		{[]A{area(), bare(whole(0))}, refE},
		{[]A{area(), bare(num(5, 1))}, value},
		{[]A{area(), bare(na)}, na},
		// no Area
		{ones(whole(5), whole(1)), value},
		{ones(whole(5), whole(2)), value},
		{ones(na, whole(1)), value},
		{ones(whole(5), na), value},
		{[]A{bare(), bare(whole(1))}, value},
		{[]A{bare(whole(5), whole(6)), bare(whole(1))}, value},
		// one value is wanted
		{[]A{l, area(whole(1))}, value},
		{[]A{l, bare()}, value},
		{[]A{l, bare(whole(1), whole(1))}, value},
	})
}

func TestP1103Choose(t *testing.T) {
	a, b, c := text("a"), text("b"), text("c")
	check(t, "P1103", "CHOOSE", []row{
		{ones(whole(1), a), a},
		{ones(whole(1), a, b, c), a},
		{ones(whole(2), a, b, c), b},
		{ones(whole(3), a, b, c), c},
		{ones(whole(4), a, b, c), value},
		{ones(whole(2), a), value},
		{ones(whole(0), a, b, c), value},
		{ones(whole(-1), a, b, c), value},
		{ones(whole(most), a), value},
		{ones(whole(least), a), value},
		{ones(whole(1<<32+1), a), value},
		{ones(num(15, 1), a, b), value},
		{ones(num(5, 1), a, b), value},
		{ones(yes, a, b), a},
		{ones(blank, a, b), value},
		{ones(text("2"), a, b), b},
		{ones(text("a"), a, b), value},
		{ones(na, a, b), na},
		{ones(na, div0, b), na},
		// whatever that is
		{ones(whole(2), a, na), na},
		{ones(whole(1), a, na), a},
		{ones(whole(1), blank, na), blank},
	})
}

func TestP1103Exact(t *testing.T) {
	check(t, "P1103", "EXACT", []row{
		{ones(text("a"), text("a")), yes},
		{ones(text("a"), text("A")), no},
		{ones(text("a"), text("a ")), no},
		{ones(text("\u00E9"), text("e\u0301")), no},
		{ones(text(""), blank), yes},
		{ones(text("1.5"), num(15, 1)), yes},
		{ones(text("TRUE"), yes), yes},
		{ones(yes, whole(1)), no},
		{ones(blank, whole(0)), no},
		{ones(text("#N/A"), na), na},
		{ones(na, na), na},
		{ones(na, div0), na},
		{ones(div0, na), div0},
	})
}

func TestP1103Rept(t *testing.T) {
	check(t, "P1103", "REPT", []row{
		{ones(text("ab"), whole(3)), text("ababab")},
		{ones(text("ab"), whole(1)), text("ab")},
		{ones(text("ab"), whole(0)), text("")},
		{ones(text("ab"), blank), text("")},
		{ones(text("ab"), yes), text("ab")},
		{ones(text("ab"), text("2")), text("abab")},
		{ones(num(-15, 1), whole(2)), text("-1.5-1.5")},
		{ones(no, whole(2)), text("FALSEFALSE")},
		{ones(text(""), whole(5)), text("")},
		{ones(text(""), whole(most)), text("")},
		{ones(blank, whole(most)), text("")},
		{ones(text("ab"), whole(-1)), value},
		{ones(text(""), whole(-1)), value},
		{ones(text("ab"), whole(least)), value},
		{ones(text("ab"), num(15, 1)), value},
		{ones(text(""), num(5, 1)), value},
		{ones(text("ab"), text("a")), value},
		{ones(text("ab"), na), na},
		{ones(na, whole(-1)), na},
		{ones(na, div0), na},
		// more than a text may have
		{ones(text("a"), whole(1000)), text(strings.Repeat("a", 1000))},
		{ones(text("a"), whole(1001)), value},
		{ones(text("ab"), whole(500)), text(strings.Repeat("ab", 500))},
		{ones(text("ab"), whole(501)), value},
		{ones(text("\u20AC"), whole(1000)), text(strings.Repeat("\u20AC", 1000))},
		{ones(text("\U0001F600"), whole(500)), text(strings.Repeat("\U0001F600", 500))},
		{ones(text("\U0001F600"), whole(501)), value},
		{ones(text(strings.Repeat("a", 1000)), whole(1)), text(strings.Repeat("a", 1000))},
		{ones(text(strings.Repeat("\u20AC", 1000)), whole(1)), text(strings.Repeat("\u20AC", 1000))},
		{ones(text(strings.Repeat("a", 1000)), whole(2)), value},
		{ones(text("ab"), whole(most)), value},
		{ones(text("a"), whole(1<<32)), value},
		{ones(text("ab"), whole(1<<62)), value},
	})
}

func TestP1103NA(t *testing.T) {
	check(t, "P1103", "NA", []row{{nil, na}, {[]A{}, na}, {ones(whole(1)), value}, {[]A{area()}, value}, {[]A{bare()}, value}})
}

// TestP4WhatIsTold: each value that is told is one that val.Check takes.
func TestP4WhatIsTold(t *testing.T) {
	l := pool()
	for _, a := range l {
		for _, b := range l {
			told := []V{fun.Unary(1, a), fun.Unary(2, a), fun.Unary(3, a)}
			for op := range 14 {
				told = append(told, fun.Binary(op, a, b))
			}
			for op := range table {
				told = append(told, fun.Apply(op, ones(a)), fun.Apply(op, ones(a, b)), fun.Apply(op, []A{area(a, b), bare(b)}))
			}
			for _, v := range told {
				if e := val.Check(v); e != 0 {
					t.Fatalf("P4: of %s, %s one tells %s: %v", show(a), show(b), show(v), e)
				}
			}
		}
	}
}
