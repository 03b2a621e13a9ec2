package val_test

import (
	"cmp"
	"math"
	"slices"
	"strconv"
	"strings"
	"testing"

	"cashbook/api"
	"cashbook/dec"
	"cashbook/val"
)

type V = val.Val

// The seven, in digits and in letters.
var faults = []struct {
	e    int
	text string
}{
	{0, "#NULL!"},
	{7, "#DIV/0!"},
	{15, "#VALUE!"},
	{23, "#REF!"},
	{29, "#NAME?"},
	{36, "#NUM!"},
	{42, "#N/A"},
}

func num(m int64, s int) V { return V{Kind: 1, N: dec.Dec{M: m, S: s}} }

func text(s string) V { return V{Kind: 2, S: s} }

func truth(b bool) V { return V{Kind: 3, B: b} }

func fault(e int) V { return V{Kind: 4, E: e} }

func isFault(e int) bool {
	for _, f := range faults {
		if f.e == e {
			return true
		}
	}
	return false
}

// show tells v such that two that differ are told otherwise.
func show(v V) string {
	s := v.S
	if len(s) > 20 {
		s = s[:20] + ".." + strconv.Itoa(len(v.S))
	}
	return "{" + strconv.Itoa(v.Kind) + " " + strconv.FormatInt(v.N.M, 10) + "e" + strconv.Itoa(v.N.S) + " " + strconv.Quote(s) + " " + strconv.FormatBool(v.B) + " " + strconv.Itoa(v.E) + "}"
}

// fields tells values of all Kinds, of some that are none, and for each one all
// choices of what stands in its fields.
func fields() []V {
	var l []V
	for _, kind := range []int{math.MinInt, -1, 0, 1, 2, 3, 4, 5, 6, 260, 1 << 32, math.MaxInt} {
		for _, n := range []dec.Dec{{}, {M: 7}, {M: -5, S: 1}, {M: 1, S: 9}, {S: 1}, {M: 10, S: 1}, {M: 1, S: 10}, {M: 1, S: -1}, {M: math.MinInt64}} {
			for _, s := range []string{"", "a", "\xFF", "TRUE", "12", strings.Repeat("a", 1000), strings.Repeat("a", 1001), strings.Repeat("\U0001F600", 500), strings.Repeat("\U0001F600", 501)} {
				for _, b := range []bool{false, true} {
					for _, e := range []int{0, 7, 15, 23, 29, 36, 42, -1, 1, 43, 256, 263} {
						l = append(l, V{Kind: kind, N: n, S: s, B: b, E: e})
					}
				}
			}
		}
	}
	return l
}

// wrong tells what Check is to tell of v, in the chapter's order.
func wrong(v V) api.Errno {
	alone := v
	switch v.Kind {
	case 0:
	case 1:
		alone.N = dec.Dec{}
	case 2:
		alone.S = ""
	case 3:
		alone.B = false
	case 4:
		alone.E = 0
	default:
		return api.ErrArg
	}
	alone.Kind = 0
	switch {
	case alone != V{}:
		return api.ErrArg
	case v.Kind == 1 && (v.N.S < 0 || v.N.S > 9 || v.N.S > 0 && v.N.M%10 == 0):
		return api.ErrArg
	case v.Kind == 2 && strings.Contains(v.S, "\xFF"):
		return api.ErrForm
	case v.Kind == 2 && (len(v.S) == 1001 || len(v.S) == 2004):
		return api.ErrLong
	case v.Kind == 4 && !isFault(v.E):
		return api.ErrArg
	}
	return api.OK
}

func TestP901Numbers(t *testing.T) {
	if val.Blank != 0 || val.Num != 1 || val.Str != 2 || val.Bool != 3 || val.Err != 4 {
		t.Error("P901: the Kinds have other numbers")
	}
	if val.Null != 0 || val.Div0 != 7 || val.Value != 15 || val.RefE != 23 || val.NameE != 29 || val.NumE != 36 || val.NA != 42 {
		t.Error("P901: the errors' values have other numbers")
	}
}

func TestP901Check(t *testing.T) {
	for _, c := range []struct {
		v    V
		want api.Errno
	}{
		{V{}, api.OK},
		{num(0, 0), api.OK},
		{num(math.MaxInt64, 0), api.OK},
		{num(-12345, 4), api.OK},
		{num(1, 9), api.OK},
		{text(""), api.OK},
		{text("Übertrag"), api.OK},
		{text(strings.Repeat("\u20AC", 1000)), api.OK},
		{text("TRUE"), api.OK},
		{truth(false), api.OK},
		{truth(true), api.OK},
		// no such Kind
		{V{Kind: 5}, api.ErrArg},
		{V{Kind: -1}, api.ErrArg},
		{V{Kind: 256}, api.ErrArg},
		// another field
		{V{N: dec.Dec{M: 1}}, api.ErrArg},
		{V{N: dec.Dec{S: 1}}, api.ErrArg},
		{V{S: "a"}, api.ErrArg},
		{V{B: true}, api.ErrArg},
		{V{E: 7}, api.ErrArg},
		{V{Kind: 1, S: "1"}, api.ErrArg},
		{V{Kind: 1, B: true}, api.ErrArg},
		{V{Kind: 1, E: 7}, api.ErrArg},
		{V{Kind: 2, S: "1", N: dec.Dec{M: 1}}, api.ErrArg},
		{V{Kind: 2, B: true}, api.ErrArg},
		{V{Kind: 2, E: 42}, api.ErrArg},
		{V{Kind: 3, B: true, N: dec.Dec{M: 1}}, api.ErrArg},
		{V{Kind: 3, S: "FALSE"}, api.ErrArg},
		{V{Kind: 3, E: 1}, api.ErrArg},
		{V{Kind: 4, N: dec.Dec{M: 7}}, api.ErrArg},
		{V{Kind: 4, E: 7, S: "#DIV/0!"}, api.ErrArg},
		{V{Kind: 4, B: true}, api.ErrArg},
		// its own field
		{num(0, 1), api.ErrArg},
		{num(50, 1), api.ErrArg},
		{num(5, -1), api.ErrArg},
		{num(5, 10), api.ErrArg},
		{text("a\xFFb"), api.ErrForm},
		{text("\xED\xA0\x80"), api.ErrForm}, // a half of a pair
		{text(strings.Repeat("\u20AC", 1001)), api.ErrLong},
		{text(strings.Repeat("a", 999) + "\U0001F600"), api.ErrLong},
		{text(strings.Repeat("a", 1001) + "\xFF"), api.ErrForm}, // the form is ahead
		// both apply: the other field is ahead
		{V{Kind: 2, S: "\xFF", E: 1}, api.ErrArg},
		{V{Kind: 2, S: strings.Repeat("a", 1001), B: true}, api.ErrArg},
	} {
		if e := val.Check(c.v); e != c.want {
			t.Errorf("P901: Check(%s): %v, want %v", show(c.v), e, c.want)
		}
	}
}

func TestP901CheckOfErrs(t *testing.T) {
	for e := -300; e <= 600; e++ {
		want := api.ErrArg
		if isFault(e) {
			want = api.OK
		}
		if got := val.Check(fault(e)); got != want {
			t.Errorf("P901: Check of the Err %d: %v, want %v", e, got, want)
		}
	}
	for _, e := range []int{math.MinInt, math.MaxInt, 1 << 32, 1<<32 + 7, -7, 1<<16 + 42} {
		if got := val.Check(fault(e)); got != api.ErrArg {
			t.Errorf("P901: Check of the Err %d: %v", e, got)
		}
	}
}

func TestP901CheckOfAllFields(t *testing.T) {
	for _, v := range fields() {
		if e := val.Check(v); e != wrong(v) {
			t.Fatalf("P901: Check(%s): %v, want %v", show(v), e, wrong(v))
		}
	}
}

func TestP901Same(t *testing.T) {
	l := []V{
		{}, num(0, 0), num(1, 0), num(-1, 0), num(1, 1), text(""), text("a"), text("A"), text("a "), text("\xFF"), text("\uFFFD"),
		truth(false), truth(true), fault(0), fault(7), fault(42), fault(99), {Kind: 9}, {Kind: -1},
		{N: dec.Dec{M: 1}}, {N: dec.Dec{S: 1}}, {S: "a"}, {B: true}, {E: 7},
		{Kind: 1, N: dec.Dec{M: 1}, S: "a"}, {Kind: 1, N: dec.Dec{M: 1}, B: true}, {Kind: 1, N: dec.Dec{M: 1}, E: 1},
		num(10, 1), num(100, 2), // the same number, other fields
	}
	for i, a := range l {
		for k, b := range l {
			if got := val.Same(a, b); got != (i == k) {
				t.Errorf("P901: Same(%s, %s): %v", show(a), show(b), got)
			}
		}
		again := a
		again.S = strings.Clone(a.S)
		if !val.Same(a, again) {
			t.Errorf("P901: Same(%s, a copy): false", show(a))
		}
	}
}

func TestP901Text(t *testing.T) {
	for _, c := range []struct {
		v    V
		want string
	}{
		{V{}, ""},
		{num(0, 0), "0"},
		{num(12, 0), "12"},
		{num(-1235, 2), "-12.35"},
		{num(1, 9), "0.000000001"},
		{num(math.MinInt64, 0), "-9223372036854775808"},
		{text(""), ""},
		{text("sum"), "sum"},
		{text(" \"TRUE\"\x00\U0001F600"), " \"TRUE\"\x00\U0001F600"},
		{text("\u00E9t\u00E9"), "\u00E9t\u00E9"},
		{truth(true), "TRUE"},
		{truth(false), "FALSE"},
	} {
		if got := val.Text(c.v); got != c.want {
			t.Errorf("P901: Text(%s): %q, want %q", show(c.v), got, c.want)
		}
	}
	for _, f := range faults {
		if got := val.Text(fault(f.e)); got != f.text {
			t.Errorf("P901: Text of the Err %d: %q, want %q", f.e, got, f.text)
		}
	}
}

func TestP901Fault(t *testing.T) {
	for _, f := range faults {
		if got := val.Fault(f.e); got != fault(f.e) {
			t.Errorf("P901: Fault(%d): %s", f.e, show(got))
		}
	}
}

// instead tells whether v is told instead: an Err as it is, else #VALUE!.
func instead(v V) V {
	if v.Kind == 4 {
		return v
	}
	return fault(15)
}

func TestP901Number(t *testing.T) {
	for _, c := range []struct {
		v    V
		want dec.Dec
		ok   bool
	}{
		{V{}, dec.Dec{}, true},
		{num(0, 0), dec.Dec{}, true},
		{num(-1235, 2), dec.Dec{M: -1235, S: 2}, true},
		{num(math.MaxInt64, 9), dec.Dec{M: math.MaxInt64, S: 9}, true},
		{truth(true), dec.Dec{M: 1}, true},
		{truth(false), dec.Dec{}, true},
		{text("0"), dec.Dec{}, true},
		{text("12.35"), dec.Dec{M: 1235, S: 2}, true},
		{text("-7"), dec.Dec{M: -7}, true},
		{text("-0.000000001"), dec.Dec{M: -1, S: 9}, true},
		{text("-9223372036854775808"), dec.Dec{M: math.MinInt64}, true},
		// what is not just so written
		{v: text("")},
		{v: text(" 1")},
		{v: text("1 ")},
		{v: text("+1")},
		{v: text("-0")},
		{v: text("01")},
		{v: text(".5")},
		{v: text("5.")},
		{v: text("1e3")},
		{v: text("50%")},
		{v: text("TRUE")},
		{v: text("#N/A")},
		{v: text("\u0661")}, // a digit of another script
		{v: text("1.50")},
		{v: text("0.1234567891")},
		{v: text("9223372036854775808")},
		{v: text("99999999999999999999999999")},
	} {
		got, other, ok := val.Number(c.v)
		var want V
		if !c.ok {
			want = instead(c.v)
		}
		if got != c.want || ok != c.ok || other != want {
			t.Errorf("P901: Number(%s): %v, %s, %v", show(c.v), got, show(other), ok)
		}
	}
	for _, f := range faults {
		if got, other, ok := val.Number(fault(f.e)); got != (dec.Dec{}) || other != fault(f.e) || ok {
			t.Errorf("P901: Number(%s): %v, %s, %v", f.text, got, show(other), ok)
		}
	}
}

func TestP901Words(t *testing.T) {
	for _, c := range []struct {
		v    V
		want string
	}{
		{V{}, ""},
		{num(-1235, 2), "-12.35"},
		{num(0, 0), "0"},
		{text(""), ""},
		{text("#N/A"), "#N/A"},
		{text("\U0001F600\u00E9"), "\U0001F600\u00E9"},
		{truth(true), "TRUE"},
		{truth(false), "FALSE"},
	} {
		if got, other, ok := val.Words(c.v); got != c.want || other != (V{}) || !ok {
			t.Errorf("P901: Words(%s): %q, %s, %v", show(c.v), got, show(other), ok)
		}
	}
	for _, f := range faults {
		if got, other, ok := val.Words(fault(f.e)); got != "" || other != fault(f.e) || ok {
			t.Errorf("P901: Words(%s): %q, %s, %v", f.text, got, show(other), ok)
		}
	}
}

func TestP901Truth(t *testing.T) {
	for _, c := range []struct {
		v        V
		want, ok bool
	}{
		{V{}, false, true},
		{truth(true), true, true},
		{truth(false), false, true},
		{num(0, 0), false, true},
		{num(1, 0), true, true},
		{num(-1, 0), true, true},
		{num(1, 9), true, true},
		{num(1<<32, 0), true, true},
		{num(math.MinInt64, 0), true, true},
		{text("TRUE"), true, true},
		{text("FALSE"), false, true},
		{v: text("")},
		{v: text("true")},
		{v: text("True")},
		{v: text("false")},
		{v: text("TRUE ")},
		{v: text(" FALSE")},
		{v: text("TRUEFALSE")},
		{v: text("T")},
		{v: text("1")},
		{v: text("0")},
		{v: text("#N/A")},
	} {
		got, other, ok := val.Truth(c.v)
		var want V
		if !c.ok {
			want = instead(c.v)
		}
		if got != c.want || ok != c.ok || other != want {
			t.Errorf("P901: Truth(%s): %v, %s, %v", show(c.v), got, show(other), ok)
		}
	}
	for _, f := range faults {
		if got, other, ok := val.Truth(fault(f.e)); got || other != fault(f.e) || ok {
			t.Errorf("P901: Truth(%s): %v, %s, %v", f.text, got, show(other), ok)
		}
	}
}

// rising tells values none of which is a Blank, each ahead of those behind it.
func rising() []V {
	l := []V{
		num(math.MinInt64, 0), num(-1<<32, 0), num(-2, 0), num(-15, 1), num(-1, 0), num(-1, 9), num(0, 0),
		num(1, 9), num(9, 1), num(1, 0), num(100000001, 8), num(math.MaxInt64, 9), num(1<<40, 0), num(math.MaxInt64, 0),
	}
	for _, s := range []string{
		"", "\x00", "\x00a", "-1", "0", "1", "10", "2", "A", "TRUE", "a", "a\x00", "aa", "ab", "b", "ba", "\u00E9", "\u0100", "\uD7FF",
		// by units of 16 bits the last two would stand ahead of the first ones
		"\uE000", "\uFFFD", "\uFFFF", "\U00010000", "\U0010FFFF",
	} {
		l = append(l, text(s))
	}
	l = append(l, truth(false), truth(true))
	for _, f := range faults {
		l = append(l, fault(f.e))
	}
	return l
}

func TestP901Compare(t *testing.T) {
	l := rising()
	for i, a := range l {
		for k, b := range l {
			want := cmp.Compare(i, k)
			if got := val.Compare(a, b); got != want {
				t.Errorf("P901: Compare(%s, %s): %d, want %d", show(a), show(b), got, want)
			}
		}
	}
}

func TestP901CompareOfBlanks(t *testing.T) {
	if got := val.Compare(V{}, V{}); got != 0 {
		t.Errorf("P901: Compare of two Blanks: %d", got)
	}
	for _, v := range rising() {
		nothing := []V{1: num(0, 0), 2: text(""), 3: truth(false), 4: fault(-1)}[v.Kind]
		want := val.Compare(nothing, v)
		if v.Kind == 4 {
			want = -1
		}
		if got := val.Compare(V{}, v); got != want {
			t.Errorf("P901: Compare(a Blank, %s): %d, want %d", show(v), got, want)
		}
		if got := val.Compare(v, V{}); got != -want {
			t.Errorf("P901: Compare(%s, a Blank): %d, want %d", show(v), got, -want)
		}
	}
	for _, c := range []struct {
		v    V
		want int
	}{
		{num(0, 0), 0}, {num(1, 9), -1}, {num(-1, 9), 1}, {text(""), 0}, {text("\x00"), -1}, {truth(false), 0}, {truth(true), -1}, {fault(0), -1}, {fault(42), -1},
	} {
		if got := val.Compare(V{}, c.v); got != c.want {
			t.Errorf("P901: Compare(a Blank, %s): %d, want %d", show(c.v), got, c.want)
		}
	}
}

// TestP901CompareOfTexts holds all pairs of short texts of some runes.
func TestP901CompareOfTexts(t *testing.T) {
	l := []string{""}
	for i := 0; i < len(l) && len(l) < 800; i++ {
		for _, r := range []rune{'a', 'b', 0xE9, 0xFFFF, 0x10000, 0xE000} {
			l = append(l, l[i]+string(r))
		}
	}
	for _, a := range l {
		for _, b := range l {
			want := slices.Compare([]rune(a), []rune(b))
			if got := val.Compare(text(a), text(b)); got != want {
				t.Fatalf("P901: Compare(%q, %q): %d, want %d", a, b, got, want)
			}
		}
	}
	long := strings.Repeat("\U0001F600", 499)
	for _, c := range []struct {
		a, b string
		want int
	}{{long + "a", long + "b", -1}, {long + "b", long + "a", 1}, {long, long + "a", -1}, {long + "a", long, 1}, {long, long, 0}} {
		if got := val.Compare(text(c.a), text(c.b)); got != c.want {
			t.Errorf("P901: Compare of long texts: %d, want %d", got, c.want)
		}
	}
}

// TestP901OfWhatMayNotBe: of what Check does not take no more is promised than
// that the calls end (P1).
func TestP901OfWhatMayNotBe(t *testing.T) {
	l := fields()
	for _, e := range []int{math.MinInt, -1, 1, 43, 256, math.MaxInt} {
		val.Fault(e)
	}
	for i, v := range l {
		val.Text(v)
		val.Number(v)
		val.Words(v)
		val.Truth(v)
		for k := i % 97; k < len(l); k += 997 {
			val.Compare(v, l[k])
			val.Compare(l[k], v)
		}
	}
}
