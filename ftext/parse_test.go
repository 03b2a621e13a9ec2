package ftext_test

import (
	"strings"
	"testing"

	"cashbook/api"
	"cashbook/expr"
	"cashbook/ftext"
	"cashbook/val"
)

func TestP1301ParseBlanks(t *testing.T) {
	for _, c := range []struct {
		s string
		e E
	}{
		{" 1", n(1)},
		{"1 ", n(1)},
		{"   1   ", n(1)},
		{"1 + 2", bin(1, n(1), n(2))},
		{" ( 1 ) ", paren(n(1))},
		{"- 1", unary(1, n(1))},
		{"1 %", unary(3, n(1))},
		{"1 <= 2", bin(10, n(1), n(2))},
		{"SUM( 1 , 2 )", call(0, n(1), n(2))},
		{"SUM(  )", call(0)},
		{"C5 : D5", area(rel(0, 0), rel(0, 1))},
		{"C5 :D5", area(rel(0, 0), rel(0, 1))},
		{"C5: D5", area(rel(0, 0), rel(0, 1))},
		{" S1!C5 :  D5 ", areaOnSheet(0, rel(0, 0), rel(0, 1))},
		{`" a "`, text(" a ")},
		{`"a" & "b"`, bin(6, text("a"), text("b"))},
		{"TRUE = FALSE", bin(7, truth(true), truth(false))},
		{"N5' ^ N6'", bin(5, name(5), name(6))},
		{"#N/A <> 1", bin(8, fault(0x2A), n(1))},
	} {
		if e, at, wrong := ftext.Parse(c.s, base); !expr.Same(e, c.e) || at != 0 || wrong != api.OK {
			t.Errorf("P1301: %q: %v, %d, %v", c.s, e, at, wrong)
		}
	}
}

// TestP1301ParseWords: what one word, or two of which one stands right behind
// the other, stands for.
func TestP1301ParseWords(t *testing.T) {
	for _, c := range []struct {
		s string
		e E
	}{
		{"N5", cell(rel(0, 11))}, // no Name without the '
		{"S5", cell(rel(0, 16))}, // no sheet without the !
		{"S5:S6", area(rel(0, 16), rel(1, 16))},
		{"LEFT(1)", call(15, n(1))},
		{"MIN(1)", call(1, n(1))},
		{"#NUM!+1", bin(1, fault(0x24), n(1))},
		{"#N/A&#NAME?", bin(6, fault(0x2A), fault(0x1D))},
		{"#REF!%", unary(3, fault(0x17))},
		{"1<-2", bin(9, n(1), unary(1, n(2)))},
		{"1>+2", bin(11, n(1), unary(2, n(2)))},
		{"-2^2", bin(5, unary(1, n(2)), n(2))},
		{"2^-3^4", bin(5, bin(5, n(2), unary(1, n(3))), n(4))},
		{"2^3^4", bin(5, bin(5, n(2), n(3)), n(4))},
		{"-2%", unary(1, unary(3, n(2)))},
		{"-(2)%", unary(1, unary(3, paren(n(2))))},
		{"1+2*3^4&5=6", bin(7, bin(6, bin(1, n(1), bin(3, n(2), bin(5, n(3), n(4)))), n(5)), n(6))},
		{"1=2&3+4*5^6", bin(7, n(1), bin(6, n(2), bin(1, n(3), bin(3, n(4), bin(5, n(5), n(6))))))},
		{"-1*-2", bin(3, unary(1, n(1)), unary(1, n(2)))},
		{"SUM(1)%", unary(3, call(0, n(1)))},
		{"SUM((1),2)", call(0, paren(n(1)), n(2))},
		{"SUM(MIN(),MAX())", call(0, call(1), call(2))},
		{"C5:D5%", unary(3, area(rel(0, 0), rel(0, 1)))},
		{"C5%", unary(3, cell(rel(0, 0)))},
	} {
		if e, at, wrong := ftext.Parse(c.s, base); !expr.Same(e, c.e) || at != 0 || wrong != api.OK {
			t.Errorf("P1301: %q: %v, %d, %v", c.s, e, at, wrong)
		}
	}
}

// wrongs are words that are no formula, the place of what is wrong with them,
// and what it is.
var wrongs = []struct {
	s    string
	at   int
	want api.Errno
}{
	// the end
	{"", 0, api.ErrForm},
	{"   ", 3, api.ErrForm},
	{"1+", 2, api.ErrForm},
	{"1+  ", 4, api.ErrForm},
	{"(", 1, api.ErrForm},
	{"(1", 2, api.ErrForm},
	{"(1+2", 4, api.ErrForm},
	{"SUM(", 4, api.ErrForm},
	{"SUM(1", 5, api.ErrForm},
	{"SUM(1,", 6, api.ErrForm},
	{"A1:", 3, api.ErrForm},
	{"A1: ", 4, api.ErrForm},
	{"S1!", 3, api.ErrForm},
	{"S1! ", 4, api.ErrForm},
	{"S1!A1:", 6, api.ErrForm},
	{"-", 1, api.ErrForm},
	// a sign that may not stand there
	{")", 0, api.ErrForm},
	{"()", 1, api.ErrForm},
	{"1)", 1, api.ErrForm},
	{"(1))", 3, api.ErrForm},
	{"1,2", 1, api.ErrForm},
	{"(1,2)", 2, api.ErrForm},
	{"SUM((1,2))", 6, api.ErrForm},
	{"SUM(,)", 4, api.ErrForm},
	{"SUM(1,)", 6, api.ErrForm},
	{"SUM(1,,2)", 6, api.ErrForm},
	{"SUM(1)2)", 6, api.ErrForm},
	{"SUM(1+)", 6, api.ErrForm},
	{"SUM(-)", 5, api.ErrForm},
	{"SUM(()", 5, api.ErrForm},
	{"%", 0, api.ErrForm},
	{"*1", 0, api.ErrForm},
	{"=1", 0, api.ErrForm},
	{"1+*2", 2, api.ErrForm},
	{"1< >2", 3, api.ErrForm},
	{"1< =2", 3, api.ErrForm},
	{"1=<2", 2, api.ErrForm},
	{"1<>=2", 3, api.ErrForm},
	{"1><2", 2, api.ErrForm},
	{"1==2", 2, api.ErrForm},
	{"1:2", 1, api.ErrForm},
	{":A1", 0, api.ErrForm},
	{"(A1):B2", 4, api.ErrForm},
	{"A1%:B2", 3, api.ErrForm},
	{"A1:B2:C3", 5, api.ErrForm},
	{"A1::B2", 3, api.ErrForm},
	{"S1!A1:B2:C3", 8, api.ErrForm},
	{"TRUE:A1", 4, api.ErrForm},
	{"N5':A1", 3, api.ErrForm},
	{"SUM():A1", 5, api.ErrForm},
	{"1(", 1, api.ErrForm},
	{"(1)(2)", 3, api.ErrForm},
	{"N5' (", 4, api.ErrForm},
	{"TRUE (1)", 5, api.ErrForm},
	{"A1 (1)", 3, api.ErrForm},
	{"!", 0, api.ErrForm},
	{"1!", 1, api.ErrForm},
	{"S1 !A1", 3, api.ErrForm},
	{"SUM(1)!A1", 6, api.ErrForm},
	// signs that are none
	{"@", 0, api.ErrForm},
	{"a1", 0, api.ErrForm},
	{"1 @", 2, api.ErrForm},
	{"1 €", 2, api.ErrForm},
	{"1+\xff", 2, api.ErrForm},
	{"1\t+2", 1, api.ErrForm},
	{"\n1", 0, api.ErrForm},
	{"1\x00", 1, api.ErrForm},
	{"1\u00a0", 1, api.ErrForm},
	{"1;2", 1, api.ErrForm},
	{"{1}", 0, api.ErrForm},
	{`"€" €`, 6, api.ErrForm},
	// numbers
	{".", 0, api.ErrForm},
	{".5", 0, api.ErrForm},
	{"5.", 0, api.ErrForm},
	{"1+05", 2, api.ErrForm},
	{"1.5.5", 0, api.ErrForm},
	{"1..5", 0, api.ErrForm},
	{"1+1.50", 2, api.ErrArg},
	{"1+0.0", 2, api.ErrArg},
	{"0.1234567891", 0, api.ErrArg},
	{"9223372036854775808", 0, api.ErrNum},
	{"-9223372036854775808", 1, api.ErrNum},
	{"99999999999999999999999", 0, api.ErrNum},
	{"5A1", 1, api.ErrForm},
	{"1E5", 1, api.ErrForm},
	{"1 2", 2, api.ErrForm},
	{"5$", 1, api.ErrForm},
	// texts
	{`"`, 0, api.ErrForm},
	{`"a`, 0, api.ErrForm},
	{`1+"a`, 2, api.ErrForm},
	{`"""`, 0, api.ErrForm},
	{`"a""`, 0, api.ErrForm},
	{`"a""b`, 0, api.ErrForm},
	{`"a" "b"`, 4, api.ErrForm},
	{"1&\"\xff\"", 2, api.ErrForm},
	{"\"\xe2\x82\"", 0, api.ErrForm},
	{`1&"` + strings.Repeat("a", 1001) + `"`, 2, api.ErrLong},
	{`"` + strings.Repeat("𝄞", 500) + `a"`, 0, api.ErrLong},
	{`"` + strings.Repeat(`""`, 1001) + `"`, 0, api.ErrLong},
	{`"` + strings.Repeat("a", 1001), 0, api.ErrForm},
	// errors' values
	{"#", 0, api.ErrForm},
	{"1+#N", 2, api.ErrForm},
	{"#N/B", 0, api.ErrForm},
	{"#n/a", 0, api.ErrForm},
	{"#NUM", 0, api.ErrForm},
	{"#DIV/0", 0, api.ErrForm},
	{"# N/A", 0, api.ErrForm},
	{"##N/A", 0, api.ErrForm},
	{"#N/A1", 4, api.ErrForm},
	{"#N/AA1", 4, api.ErrForm},
	{"#NULL!!", 6, api.ErrForm},
	// functions
	{"FOO(1)", 0, api.ErrName},
	{"1+FOO(05)", 2, api.ErrName},
	{"SUMS(1)", 0, api.ErrName},
	{"SU$M(1)", 0, api.ErrName},
	{"A1(1)", 0, api.ErrName},
	{"$A$1(1)", 0, api.ErrName},
	{"TRUE(1)", 0, api.ErrName},
	{"FALSE()", 0, api.ErrName},
	{"N5'(1)", 0, api.ErrName},
	{"'(", 0, api.ErrName},
	{"SUM (1)", 0, api.ErrForm},
	{"SUM", 0, api.ErrForm},
	{"SUM!A1", 0, api.ErrForm},
	// Names
	{"N'", 0, api.ErrForm},
	{"N05'", 0, api.ErrForm},
	{"N00'", 0, api.ErrForm},
	{"NA'", 0, api.ErrForm},
	{"N5''", 0, api.ErrForm},
	{"N5'A", 0, api.ErrForm},
	{"N$5'", 0, api.ErrForm},
	{"N2147483648'", 0, api.ErrForm},
	{"N9223372036854775808'", 0, api.ErrForm},
	{"M5'", 0, api.ErrForm},
	{"5'", 1, api.ErrForm},
	{"N5'!A1", 3, api.ErrForm},
	{"1+N1024'", 0, api.ErrArg},
	{"1+N2147483647'", 0, api.ErrArg},
	// sheets
	{"S0!A1", 0, api.ErrForm},
	{"1+S0!A1", 2, api.ErrForm},
	{"S01!A1", 0, api.ErrForm},
	{"S!A1", 0, api.ErrForm},
	{"$S1!A1", 0, api.ErrForm},
	{"S$1!A1", 0, api.ErrForm},
	{"S1'!A1", 0, api.ErrForm},
	{"T1!A1", 0, api.ErrForm},
	{"TRUE!A1", 0, api.ErrForm},
	{"FALSE!A1", 0, api.ErrForm},
	{"A1!B2", 0, api.ErrForm},
	{"S2147483648!A1", 0, api.ErrForm},
	{"S9223372036854775808!A1", 0, api.ErrForm},
	{"1+S9!A1", 0, api.ErrArg},
	{"1+S2147483647!A1", 0, api.ErrArg},
	{"S1! A1", 4, api.ErrForm},
	{"S1!   ZZ1", 6, api.ErrForm},
	{"S1! 1.50", 4, api.ErrArg},
	{"S1!1.50", 3, api.ErrArg},
	{"S1!5", 3, api.ErrForm},
	{"S1!ZZ1", 3, api.ErrRange},
	{"S1!A0", 3, api.ErrForm},
	{"S1!TRUE", 3, api.ErrForm},
	{"S1!N5'", 3, api.ErrForm},
	{"S1!SUM(1)", 3, api.ErrForm},
	{"S1!ZZ1(", 3, api.ErrForm},
	{"S1!S2!A1", 3, api.ErrForm},
	{"S1!S0!A1", 3, api.ErrForm},
	{"S1!(A1)", 3, api.ErrForm},
	{"S1!-A1", 3, api.ErrForm},
	{"S1!:A1", 3, api.ErrForm},
	{"S1!!A1", 3, api.ErrForm},
	{`S1!"a`, 3, api.ErrForm},
	{`S1!"` + strings.Repeat("a", 1001) + `"`, 3, api.ErrLong},
	{"S1!A1:S1!B2", 6, api.ErrForm},
	// places
	{"A", 0, api.ErrForm},
	{"$", 0, api.ErrForm},
	{"'", 0, api.ErrForm},
	{"'A1", 0, api.ErrForm},
	{"A1'", 0, api.ErrForm},
	{"A'1", 0, api.ErrForm},
	{"A0", 0, api.ErrForm},
	{"A01", 0, api.ErrForm},
	{"A$01", 0, api.ErrForm},
	{"$1", 0, api.ErrForm},
	{"A1A", 0, api.ErrForm},
	{"$$A1", 0, api.ErrForm},
	{"A$$1", 0, api.ErrForm},
	{"A1$", 0, api.ErrForm},
	{"A1$2", 0, api.ErrForm},
	{"A$B1", 0, api.ErrForm},
	{"$A$B1", 0, api.ErrForm},
	{"A$", 0, api.ErrForm},
	{"$A", 0, api.ErrForm},
	{"$A$", 0, api.ErrForm},
	{"$1$A", 0, api.ErrForm},
	{"$$ZZ1", 0, api.ErrForm},
	{"ZZ1$", 0, api.ErrForm},
	{"ZZ1'", 0, api.ErrForm},
	{"$TRUE", 0, api.ErrForm},
	{"TRUE1", 0, api.ErrRange},
	{"1+IW1", 2, api.ErrRange},
	{"A65537", 0, api.ErrRange},
	{"$A$65537", 0, api.ErrRange},
	{"$IW$1", 0, api.ErrRange},
	{"A99999999999999999999", 0, api.ErrRange},
	{"A1:ZZ1", 3, api.ErrRange},
	{"A1: ZZ1", 4, api.ErrRange},
	{"ZZ1:A0", 0, api.ErrRange},
	{"A1:5", 3, api.ErrForm},
	{"A1:05", 3, api.ErrForm},
	{"A1:1.50", 3, api.ErrArg},
	{"A1:TRUE", 3, api.ErrForm},
	{"A1:N5'", 3, api.ErrForm},
	{"A1:SUM(1)", 3, api.ErrForm},
	{"A1:B2(1)", 3, api.ErrForm},
	{"A1:ZZ1(1)", 3, api.ErrForm},
	{"A1:ZZ1!", 3, api.ErrForm},
	{"A1:(B2)", 3, api.ErrForm},
	// a word that may not stand there
	{"A1 B2", 3, api.ErrForm},
	{"1 ZZ1", 2, api.ErrForm},
	{"1 FOO(1)", 2, api.ErrForm},
	{"1 S0!A1", 2, api.ErrForm},
	{"1 TRUE", 2, api.ErrForm},
	{"1 N5'", 2, api.ErrForm},
	{"(1)1", 3, api.ErrForm},
	{"1%1", 2, api.ErrForm},
	// its own error ahead of that
	{"1 1.50", 2, api.ErrArg},
	{"1 9223372036854775808", 2, api.ErrNum},
	{`1 "` + strings.Repeat("a", 1001) + `"`, 2, api.ErrLong},
	{"1 #N", 2, api.ErrForm},
	{"(1)1.50", 3, api.ErrArg},
	{"A1:B2 1.50", 6, api.ErrArg},
	// the first that is wrong
	{") 1.50", 0, api.ErrForm},
	{"1 2 1.50", 2, api.ErrForm},
	{"FOO(1.50", 0, api.ErrName},
	{"SUM(1.50", 4, api.ErrArg},
	{"N1024'+", 7, api.ErrForm},
	// Check's, behind all others
	{strings.Repeat("(", 16) + "1" + strings.Repeat(")", 16), 0, api.ErrDeep},
	{strings.Repeat("-", 16) + "1", 0, api.ErrDeep},
	{"1" + strings.Repeat("%", 16), 0, api.ErrDeep},
	{"1" + strings.Repeat("+1", 16), 0, api.ErrDeep},
	{"1+" + strings.Repeat("SUM(", 16) + strings.Repeat(")", 16), 0, api.ErrDeep},
	{strings.Repeat("(", 16) + "1" + strings.Repeat(")", 17), 33, api.ErrForm},
	{strings.Repeat("(", 16) + "1" + strings.Repeat(")", 15), 32, api.ErrForm},
	{"1+SUM(1" + strings.Repeat(",1", 30) + ")", 0, api.ErrArg},
	{"1+SUM(1" + strings.Repeat(",1", 30) + ",)", 68, api.ErrForm},
	{"SUM(1" + strings.Repeat(",1", 1023) + ")", 0, api.ErrLong},
	{"SUM(1" + strings.Repeat(",1", 1022) + ")", 0, api.ErrArg},
}

func TestP1301ParseWrong(t *testing.T) {
	for _, c := range wrongs {
		if _, at, wrong := ftext.Parse(c.s, base); at != c.at || wrong != c.want {
			t.Errorf("P1301: %q: %d, %v, not %d, %v", brief(c.s), at, wrong, c.at, c.want)
		}
	}
}

// TestP1301ParseFunctions: each by its name, and no other.
func TestP1301ParseFunctions(t *testing.T) {
	names := strings.Fields("SUM MIN MAX COUNT AVERAGE ABS SIGN INT MOD ROUND IF AND OR NOT LEN LEFT RIGHT MID CONCAT UPPER LOWER ISBLANK ISERROR IFERROR INDEX CHOOSE EXACT REPT NA TYPE")
	for op, s := range names {
		if e, at, wrong := ftext.Parse(s+"(1,2)", base); !expr.Same(e, call(op, n(1), n(2))) || at != 0 || wrong != api.OK {
			t.Errorf("P1301: %s: %v, %d, %v", s, e, at, wrong)
		}
		if s2, wrong := ftext.Text(call(op, n(1), n(2)), base); s2 != s+"(1,2)" || wrong != api.OK {
			t.Errorf("P1301: %s: %s, %v", s, s2, wrong)
		}
	}
}

// TestP1301ParseBytes: each byte alone, behind an operand, and within a text.
func TestP1301ParseBytes(t *testing.T) {
	for b := range 256 {
		s := string([]byte{byte(b)})
		alone := api.ErrForm
		if b >= '0' && b <= '9' {
			alone = api.OK
		}
		if _, at, wrong := ftext.Parse(s, base); wrong != alone || at != 0 && s != " " && !strings.Contains("(+-", s) {
			t.Errorf("P1301: %q: %d, %v", s, at, wrong)
		}
		want, place := api.ErrForm, 1
		switch {
		case s == "%" || s == " ":
			want, place = api.OK, 0
		case strings.Contains("+-*/^&=<>", s):
			place = 2 // an operand lacks
		}
		if s == "." || b >= '0' && b <= '9' { // of one number
			want, place = api.ErrForm, 0
		}
		if _, at, wrong := ftext.Parse("0"+s, base); wrong != want || at != place {
			t.Errorf("P1301: 0%q: %d, %v", s, at, wrong)
		}
		within := E{}
		want = api.ErrForm
		if b < 128 && s != `"` {
			within, want = text(s), api.OK
		}
		if e, at, wrong := ftext.Parse(`"`+s+`"`, base); !expr.Same(e, within) || wrong != want || at != 0 {
			t.Errorf("P1301: %q in a text: %v, %d, %v", s, e, at, wrong)
		}
	}
}

// TestP1301ParseFaults: the seven, and nothing that one byte more or less makes.
func TestP1301ParseFaults(t *testing.T) {
	for _, no := range []int{0x00, 0x07, 0x0F, 0x17, 0x1D, 0x24, 0x2A} {
		s := val.Text(val.Fault(no))
		if e, at, wrong := ftext.Parse("1+"+s, base); !expr.Same(e, bin(1, n(1), fault(no))) || at != 0 || wrong != api.OK {
			t.Errorf("P1301: %s: %v, %d, %v", s, e, at, wrong)
		}
		for i := range s {
			if _, at, wrong := ftext.Parse("1+"+s[:i]+s[i+1:], base); wrong != api.ErrForm || at < 2 {
				t.Errorf("P1301: %s: %d, %v", s[:i]+s[i+1:], at, wrong)
			}
		}
	}
}
