package fun_test

import (
	"math"
	"strings"
	"testing"

	"cashbook/fun"
	"cashbook/val"
)

func TestP1102Unary(t *testing.T) {
	for _, c := range []struct {
		op      int
		a, want V
	}{
		{1, whole(5), whole(-5)},
		{1, num(-25, 1), num(25, 1)},
		{1, whole(0), whole(0)},
		{1, whole(most), whole(-most)},
		{1, whole(least), numE},
		{1, num(least, 9), numE},
		{1, blank, whole(0)},
		{1, yes, whole(-1)},
		{1, no, whole(0)},
		{1, text("12.5"), num(-125, 1)},
		{1, text("a"), value},
		{1, text(""), value},
		{1, text("TRUE"), value},
		{2, whole(5), whole(5)},
		{2, whole(least), whole(least)},
		// the value itself, not its number
		{2, blank, blank},
		{2, yes, yes},
		{2, text("12.5"), text("12.5")},
		{2, text("a"), text("a")},
		{3, whole(5), num(5, 2)},
		{3, whole(100), whole(1)},
		{3, whole(-12345), num(-12345, 2)},
		{3, whole(0), whole(0)},
		{3, whole(most), num(most, 2)},
		{3, num(5, 8), num(1, 9)}, // a half
		{3, num(-5, 8), num(-1, 9)},
		{3, num(4, 8), whole(0)},
		{3, num(49, 9), whole(0)},
		{3, blank, whole(0)},
		{3, yes, num(1, 2)},
		{3, text("7"), num(7, 2)},
		{3, text("7%"), value},
	} {
		if got := fun.Unary(c.op, c.a); !val.Same(got, c.want) {
			t.Errorf("P1102: Unary(%d, %s): %s, want %s", c.op, show(c.a), show(got), show(c.want))
		}
	}
	for _, f := range faults {
		for op := 1; op <= 3; op++ {
			if got := fun.Unary(op, f); got != f {
				t.Errorf("P1102: Unary(%d, %s): %s", op, show(f), show(got))
			}
		}
	}
	for _, op := range []int{0, -1, 4, 5, 12, 257, 1 << 32, 1<<32 + 2, math.MinInt, math.MaxInt} {
		for _, a := range append([]V{blank, whole(1), text("a"), yes}, faults...) {
			if got := fun.Unary(op, a); got != value {
				t.Errorf("P1102: Unary(%d, %s): %s", op, show(a), show(got))
			}
		}
	}
}

// TestP1102ErrsFirst: a's ahead of b's, whatever sign stands between.
func TestP1102ErrsFirst(t *testing.T) {
	for op := -2; op <= 15; op++ {
		for _, f := range faults {
			for _, v := range append([]V{blank, whole(0), text("a"), yes}, faults...) {
				if got := fun.Binary(op, f, v); got != f {
					t.Errorf("P1102: Binary(%d, %s, %s): %s", op, show(f), show(v), show(got))
				}
				want := f
				if v.Kind == 4 {
					want = v
				}
				if got := fun.Binary(op, v, f); got != want {
					t.Errorf("P1102: Binary(%d, %s, %s): %s", op, show(v), show(f), show(got))
				}
			}
		}
	}
}

func TestP1102NoSuchSign(t *testing.T) {
	for _, op := range []int{0, -1, 13, 14, 256 + 1, 1<<32 + 6, math.MinInt, math.MaxInt} {
		for _, a := range []V{blank, whole(1), text("a"), no} {
			for _, b := range []V{blank, whole(0), text("b"), yes} {
				if got := fun.Binary(op, a, b); got != value {
					t.Errorf("P1102: Binary(%d, %s, %s): %s", op, show(a), show(b), show(got))
				}
			}
		}
	}
}

type sum struct {
	op         int
	a, b, want V
}

func checkSums(t *testing.T, l []sum) {
	t.Helper()
	for _, c := range l {
		if got := fun.Binary(c.op, c.a, c.b); !val.Same(got, c.want) {
			t.Errorf("P1102: Binary(%d, %s, %s): %s, want %s", c.op, show(c.a), show(c.b), show(got), show(c.want))
		}
	}
}

func TestP1102Reckons(t *testing.T) {
	const add, sub, mul, div = 1, 2, 3, 4
	checkSums(t, []sum{
		{add, whole(2), whole(3), whole(5)},
		{add, num(15, 1), num(5, 1), whole(2)},
		{add, whole(most), whole(1), numE},
		{add, whole(least), whole(-1), numE},
		{add, whole(most), num(1, 1), numE},
		{add, blank, blank, whole(0)},
		{add, yes, text("1.5"), num(25, 1)},
		{add, text("a"), whole(1), value},
		{add, whole(1), text(""), value},
		{sub, whole(2), whole(3), whole(-1)},
		{sub, whole(3), whole(2), whole(1)},
		{sub, whole(least), whole(1), numE},
		{sub, blank, whole(least), numE},
		{sub, text("9223372036854775808"), whole(1), value},
		{mul, num(15, 1), whole(-2), whole(-3)},
		{mul, num(5, 9), num(1, 1), num(1, 9)}, // a half
		{mul, num(-5, 9), num(1, 1), num(-1, 9)},
		{mul, num(4, 9), num(1, 1), whole(0)},
		{mul, whole(most), whole(2), numE},
		{mul, blank, whole(most), whole(0)},
		{div, whole(7), whole(2), num(35, 1)},
		{div, whole(2), whole(7), num(285714286, 9)},
		{div, whole(-2), whole(3), num(-666666667, 9)},
		{div, whole(7), whole(0), div0},
		{div, whole(0), whole(0), div0},
		{div, whole(7), blank, div0},
		{div, whole(7), no, div0},
		{div, whole(7), text("0"), div0},
		{div, text("a"), whole(0), value},
		{div, whole(most), num(1, 1), numE},
		{div, whole(least), whole(-1), numE},
	})
}

func TestP1102Power(t *testing.T) {
	const to = 5
	checkSums(t, []sum{
		{to, whole(2), whole(10), whole(1024)},
		{to, whole(-2), whole(3), whole(-8)},
		{to, num(15, 1), whole(2), num(225, 2)},
		{to, whole(7), whole(1), whole(7)},
		{to, whole(7), whole(0), whole(1)},
		{to, whole(0), whole(0), whole(1)},
		{to, blank, blank, whole(1)},
		{to, whole(0), whole(5), whole(0)},
		{to, whole(0), whole(64), whole(0)},
		{to, whole(1), whole(64), whole(1)},
		{to, whole(1), whole(-64), whole(1)},
		{to, whole(-1), whole(63), whole(-1)},
		{to, whole(-1), whole(64), whole(1)},
		{to, whole(-1), whole(-63), whole(-1)},
		{to, whole(2), whole(62), whole(1 << 62)},
		{to, whole(2), whole(63), numE},
		{to, whole(-2), whole(63), whole(least)},
		{to, whole(-2), whole(64), numE},
		{to, whole(10), whole(18), whole(1000000000000000000)},
		{to, whole(10), whole(19), numE},
		{to, whole(2), whole(-1), num(5, 1)},
		{to, whole(2), whole(-2), num(25, 2)},
		{to, whole(-2), whole(-3), num(-125, 3)},
		{to, whole(3), whole(-1), num(333333333, 9)},
		{to, num(1, 1), whole(-3), whole(1000)},
		{to, whole(0), whole(-1), div0},
		{to, whole(0), whole(-64), div0},
		{to, num(1, 5), whole(-2), div0}, // what it is divided by is rounded to 0
		{to, num(1, 5), whole(2), whole(0)},
		{to, whole(10), whole(-9), num(1, 9)},
		{to, whole(10), whole(-10), whole(0)},
		{to, whole(10), whole(-19), numE}, // what 1 is divided by is too great
		{to, whole(2), whole(-64), numE},
		// rounded behind each step: a half of the last place stays one
		{to, num(5, 1), whole(30), num(1, 9)},
		{to, num(5, 1), whole(64), num(1, 9)},
		{to, num(5, 1), whole(-64), whole(1000000000)},
		{to, num(11, 1), whole(10), num(259374246, 8)},
		// no such b
		{to, whole(1), whole(65), numE},
		{to, whole(1), whole(-65), numE},
		{to, whole(0), whole(65), numE},
		{to, whole(0), whole(-65), numE},
		{to, whole(1), whole(most), numE},
		{to, whole(1), whole(least), numE},
		{to, whole(1), whole(1 << 32), numE},
		{to, whole(1), num(5, 1), numE},
		{to, whole(4), num(5, 1), numE},
		{to, whole(0), num(-5, 1), numE},
		{to, whole(1), num(15, 1), numE},
		{to, whole(1), num(640000001, 7), numE},
		// of values
		{to, text("3"), yes, whole(3)},
		{to, yes, text("64"), whole(1)},
		{to, text("a"), num(5, 1), value},
		{to, whole(2), text("a"), value},
		{to, whole(2), text("0.5"), numE},
	})
}

func TestP1102Joins(t *testing.T) {
	const and = 6
	many := strings.Repeat("a", 999)
	wide := strings.Repeat("\U0001F600", 499)
	checkSums(t, []sum{
		{and, text("ab"), text("cd"), text("abcd")},
		{and, text(""), text(""), text("")},
		{and, blank, blank, text("")},
		{and, num(-15, 1), yes, text("-1.5TRUE")},
		{and, no, whole(0), text("FALSE0")},
		{and, text("\u20AC"), blank, text("\u20AC")},
		{and, text(many), text("b"), text(many + "b")},
		{and, text(many), text("bc"), value},
		{and, text(many), text("\U0001F600"), value}, // two units
		{and, whole(10), text(many), value},
		{and, text(wide), text("ab"), text(wide + "ab")},
		{and, text(wide), text("\U0001F600"), text(wide + "\U0001F600")},
		{and, text(wide), text("abc"), value},
		{and, text(strings.Repeat("\u20AC", 999)), text("a"), text(strings.Repeat("\u20AC", 999) + "a")},
		{and, text(many), text(many), value},
	})
}

func TestP1102Compares(t *testing.T) {
	// =, <>, <, <=, >, >= where a stands ahead of b, is alike, stands behind it
	ways := [][]V{
		{no, yes, yes, yes, no, no},
		{yes, no, no, yes, no, yes},
		{no, yes, no, no, yes, yes},
	}
	for _, c := range []struct {
		a, b V
		way  int
	}{
		{whole(1), whole(2), -1},
		{whole(2), whole(2), 0},
		{num(25, 1), whole(2), 1},
		{text("a"), text("b"), -1},
		{text("a"), text("A"), 1},
		{text("a"), text("a"), 0},
		{no, yes, -1},
		{yes, yes, 0},
		{whole(most), text(""), -1},
		{text("z"), no, -1},
		{yes, whole(1), 1},
		{text("1"), whole(1), 1}, // a text is not its number
		{blank, blank, 0},
		{blank, whole(0), 0},
		{blank, text(""), 0},
		{blank, no, 0},
		{whole(-1), blank, -1},
		{text("a"), blank, 1},
		{blank, yes, -1},
		{text("\uFFFF"), text("\U00010000"), -1},
	} {
		for i, want := range ways[c.way+1] {
			if got := fun.Binary(7+i, c.a, c.b); got != want {
				t.Errorf("P1102: Binary(%d, %s, %s): %s, want %s", 7+i, show(c.a), show(c.b), show(got), show(want))
			}
		}
	}
}
