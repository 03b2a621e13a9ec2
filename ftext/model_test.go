package ftext_test

import (
	"math"
	"math/rand"
	"regexp"
	"slices"
	"strconv"
	"strings"
	"testing"
	"unicode/utf16"
	"unicode/utf8"

	"cashbook/api"
	"cashbook/dec"
	"cashbook/expr"
	"cashbook/ftext"
	"cashbook/ref"
	"cashbook/val"
)

// levels are the signs that stand between two, those that bind least first, and
// their Ops.
var levels = [][]string{{"=", "<>", "<", "<=", ">", ">="}, {"&"}, {"+", "-"}, {"*", "/"}, {"^"}}

var ops = map[string]int{"+": 1, "-": 2, "*": 3, "/": 4, "^": 5, "&": 6, "=": 7, "<>": 8, "<": 9, "<=": 10, ">": 11, ">=": 12}

// How much the signs bind that stand ahead and behind, and all else.
const (
	levelAhead   = 5
	levelPercent = 6
	levelElse    = 7
)

// write tells the words that e is to be told in, and how much it binds.
func write(e E, base C) (string, int) {
	var kids []string
	var binds []int
	for _, kid := range e.Kids {
		s, level := write(kid, base)
		kids, binds = append(kids, s), append(binds, level)
	}
	wrap := func(i int, wanted bool) string {
		if wanted {
			return "(" + kids[i] + ")"
		}
		return kids[i]
	}
	switch e.Kind {
	case 1:
		return writeConst(e.V)
	case 6:
		return "N" + strconv.Itoa(e.Op) + "'", levelElse
	case 7:
		if e.Op == 3 {
			return wrap(0, binds[0] < levelPercent) + "%", levelPercent
		}
		return " -+"[e.Op:e.Op+1] + wrap(0, binds[0] < levelAhead), levelAhead
	case 8:
		for level, signs := range levels {
			for _, sign := range signs {
				if ops[sign] == e.Op {
					left := binds[0] < level || sign == "^" && binds[0] == level
					return wrap(0, left) + sign + wrap(1, binds[1] <= level), level
				}
			}
		}
	case 9:
		return functionNames[e.Op] + "(" + strings.Join(kids, ",") + ")", levelElse
	case 10:
		return "(" + kids[0] + ")", levelElse
	}
	s := writePlace(e.A.A, base)
	if e.Kind == 3 || e.Kind == 5 {
		s += ":" + writePlace(e.A.B, base)
	}
	if e.Kind == 4 || e.Kind == 5 {
		s = "S" + strconv.Itoa(e.Sheet+1) + "!" + s
	}
	return s, levelElse
}

var functionNames = strings.Fields("SUM MIN MAX COUNT AVERAGE ABS SIGN INT MOD ROUND IF AND OR NOT LEN LEFT RIGHT MID CONCAT UPPER LOWER ISBLANK ISERROR IFERROR INDEX CHOOSE EXACT REPT NA TYPE")

func writeConst(v val.Val) (string, int) {
	switch {
	case v.Kind == 2:
		return `"` + strings.Join(strings.Split(v.S, `"`), `""`) + `"`, levelElse
	case v.N.M < 0:
		return val.Text(v), levelAhead
	}
	return val.Text(v), levelElse
}

func writePlace(r R, base C) string {
	row, col := r.Row, r.Col
	rowSign, colSign := "$", "$"
	if r.RelRow {
		row, rowSign = (row+base.Row)%65536, ""
	}
	if r.RelCol {
		col, colSign = (col+base.Col)%256, ""
	}
	letters := string(rune('A' + col%26))
	if col >= 26 {
		letters = string(rune('A'+col/26-1)) + letters
	}
	return colSign + letters + rowSign + strconv.Itoa(row+1)
}

// thrown is what is thrown where words are wrong.
type thrown struct {
	at    int
	wrong api.Errno
}

// token is a word or a sign, seen by its beginning alone.
type token struct {
	kind  string // number, text, error, truth, name, function, sheet, place, sign, end
	s     string
	at    int
	apart bool
	v     val.Val
	wrong api.Errno // that is told wherever it stands
}

// reading goes through words by calls of itself.
type reading struct {
	s    string
	at   int
	base C
}

var (
	numberForm   = regexp.MustCompile(`^[0-9.]+`)
	wordForm     = regexp.MustCompile(`^[A-Z0-9$']+`)
	nameForm     = regexp.MustCompile(`^N(0|[1-9][0-9]*)'$`)
	sheetForm    = regexp.MustCompile(`^S([1-9][0-9]*)$`)
	placeForm    = regexp.MustCompile(`^(\$?)([A-Z]+)(\$?)([1-9][0-9]*)$`)
	functionForm = regexp.MustCompile(`^[A-Z0-9$']+\(`)
	sheetsForm   = regexp.MustCompile(`^[A-Z0-9$']+!`)
	signForm     = regexp.MustCompile(`^(<>|<=|>=|[-+*/^&=<>(),:%])`)
	errorForm    = regexp.MustCompile(`^#(NULL!|DIV/0!|VALUE!|REF!|NAME\?|NUM!|N/A)`)
)

var errorNumbers = map[string]int{"#NULL!": 0, "#DIV/0!": 7, "#VALUE!": 15, "#REF!": 23, "#NAME?": 29, "#NUM!": 36, "#N/A": 42}

func (r *reading) peek() token {
	rest := strings.TrimLeft(r.s[r.at:], " ")
	t := token{at: len(r.s) - len(rest), apart: strings.HasPrefix(r.s[r.at:], " ")}
	if rest == "" {
		t.kind = "end"
	} else if t.s = numberForm.FindString(rest); t.s != "" {
		t.kind = "number"
		t.v.Kind = 1
		t.v.N, t.wrong = dec.Parse(t.s)
	} else if rest[0] == '"' {
		t.kind = "text"
		t.s, t.v, t.wrong = readText(rest)
	} else if rest[0] == '#' {
		t.kind, t.s, t.wrong = "error", errorForm.FindString(rest), api.ErrForm
		if t.s != "" {
			t.v, t.wrong = val.Val{Kind: 4, E: errorNumbers[t.s]}, api.OK
		}
	} else if word := wordForm.FindString(rest); word != "" {
		t.kind, t.s = kindOf(word, rest), word
	} else {
		t.kind, t.s = "sign", signForm.FindString(rest)
	}
	return t
}

// readText tells the text that rest begins with, as it is written and as it is.
func readText(rest string) (string, val.Val, api.Errno) {
	size := 1
	for {
		end := strings.IndexByte(rest[size:], '"')
		if end < 0 {
			return rest, val.Val{}, api.ErrForm
		}
		size += end + 1
		if !strings.HasPrefix(rest[size:], `"`) {
			break
		}
		size++
	}
	s := strings.Join(strings.Split(rest[1:size-1], `""`), `"`)
	switch {
	case !utf8.ValidString(s):
		return rest[:size], val.Val{}, api.ErrForm
	case len(utf16.Encode([]rune(s))) > 1000:
		return rest[:size], val.Val{}, api.ErrLong
	}
	return rest[:size], val.Val{Kind: 2, S: s}, api.OK
}

func kindOf(word, rest string) string {
	truth := word == "TRUE" || word == "FALSE"
	m := nameForm.FindStringSubmatch(word)
	switch {
	case functionForm.MatchString(rest):
		return "function"
	case m != nil && small(m[1]):
		return "name"
	case sheetsForm.MatchString(rest):
		return "sheet"
	case truth:
		return "truth"
	}
	return "place"
}

func small(digits string) bool {
	n, e := strconv.ParseInt(digits, 10, 32)
	return e == nil && n >= 0
}

func (r *reading) take() token {
	t := r.peek()
	r.at = t.at + len(t.s)
	return t
}

// refuse throws that t may not stand where it does.
func refuse(t token) {
	if t.wrong != api.OK {
		panic(thrown{t.at, t.wrong})
	}
	panic(thrown{t.at, api.ErrForm})
}

// takeSign takes this sign, if it stands there.
func (r *reading) takeSign(s string) bool {
	t := r.peek()
	if t.kind == "sign" && t.s == s {
		r.take()
		return true
	}
	return false
}

func (r *reading) level(i int) E {
	if i == len(levels) {
		return r.ahead()
	}
	e := r.level(i + 1)
	for {
		t := r.peek()
		if t.kind != "sign" || !slices.Contains(levels[i], t.s) {
			return e
		}
		r.take()
		e = bin(ops[t.s], e, r.level(i+1))
	}
}

func (r *reading) ahead() E {
	if r.takeSign("-") {
		return unary(1, r.ahead())
	}
	if r.takeSign("+") {
		return unary(2, r.ahead())
	}
	e := r.operand()
	for r.takeSign("%") {
		e = unary(3, e)
	}
	return e
}

func (r *reading) operand() E {
	t := r.peek()
	switch t.kind {
	case "number", "text", "error":
		if t.wrong != api.OK {
			refuse(t)
		}
		r.take()
		return constant(t.v)
	case "truth":
		r.take()
		return truth(t.s == "TRUE")
	case "name":
		r.take()
		n, _ := strconv.Atoi(t.s[1 : len(t.s)-1])
		return name(n)
	case "function":
		return r.function()
	case "sheet":
		return r.sheet()
	case "place":
		return r.area(E{Kind: 2, A: ref.Area{A: r.place(false)}})
	}
	if !r.takeSign("(") {
		refuse(t)
	}
	e := r.level(0)
	if !r.takeSign(")") {
		refuse(r.peek())
	}
	return paren(e)
}

func (r *reading) function() E {
	t := r.take()
	op := slices.Index(functionNames, t.s)
	if op < 0 {
		panic(thrown{t.at, api.ErrName})
	}
	r.takeSign("(")
	e := call(op)
	if r.takeSign(")") {
		return e
	}
	for {
		e.Kids = append(e.Kids, r.level(0))
		if r.takeSign(")") {
			return e
		}
		if !r.takeSign(",") {
			refuse(r.peek())
		}
	}
}

func (r *reading) sheet() E {
	t := r.take()
	m := sheetForm.FindStringSubmatch(t.s)
	if m == nil || !small(m[1]) {
		panic(thrown{t.at, api.ErrForm})
	}
	r.at++ // the !
	n, _ := strconv.Atoi(m[1])
	return r.area(E{Kind: 4, Sheet: n - 1, A: ref.Area{A: r.place(true)}})
}

// area tells the area that e's place is the first corner of, if there is one.
func (r *reading) area(e E) E {
	if r.takeSign(":") {
		e.Kind++
		e.A.B = r.place(false)
	}
	return e
}

func (r *reading) place(rightHere bool) R {
	t := r.peek()
	if t.kind != "place" || rightHere && t.apart {
		refuse(t)
	}
	r.take()
	m := placeForm.FindStringSubmatch(t.s)
	if m == nil {
		panic(thrown{t.at, api.ErrForm})
	}
	row, e := strconv.Atoi(m[4])
	col := 0
	for _, l := range m[2] {
		col = min(col*26+int(l-'A')+1, 1000)
	}
	if e != nil || row > 65536 || col > 256 {
		panic(thrown{t.at, api.ErrRange})
	}
	return R{
		Row: (row - 1 + map[bool]int{true: 65536 - r.base.Row}[m[3] == ""]) % 65536, RelRow: m[3] == "",
		Col: (col - 1 + map[bool]int{true: 256 - r.base.Col}[m[1] == ""]) % 256, RelCol: m[1] == "",
	}
}

// parse tells what Parse is to tell.
func parse(s string, base C) (e E, at int, wrong api.Errno) {
	defer func() {
		if t, is := recover().(thrown); is {
			e, at, wrong = E{}, t.at, t.wrong
		}
	}()
	r := reading{s: s, base: base}
	e = r.level(0)
	if t := r.peek(); t.kind != "end" {
		refuse(t)
	}
	if wrong := expr.Check(e); wrong != api.OK {
		return E{}, 0, wrong
	}
	return e, 0, api.OK
}

// strip tells what Strip is to tell: Parens go first, then minuses.
func strip(e E) E { return joinMinus(withoutParens(e)) }

func withoutParens(e E) E {
	for e.Kind == 10 {
		e = e.Kids[0]
	}
	kids := make([]E, len(e.Kids))
	for i, kid := range e.Kids {
		kids[i] = withoutParens(kid)
	}
	e.Kids = kids
	return e
}

func joinMinus(e E) E {
	if e.Kind == 7 && e.Op == 1 && e.Kids[0].V.N.M > 0 {
		return num(-e.Kids[0].V.N.M, e.Kids[0].V.N.S)
	}
	for i, kid := range e.Kids {
		e.Kids[i] = joinMinus(kid)
	}
	return e
}

func pick[T any](r *rand.Rand, l ...T) T { return l[r.Intn(len(l))] }

func randomRef(r *rand.Rand) R {
	return R{Row: pick(r, 0, 1, 65535, r.Intn(65536)), Col: pick(r, 0, 25, 26, 255, r.Intn(256)), RelRow: r.Intn(2) == 0, RelCol: r.Intn(2) == 0}
}

func randomBase(r *rand.Rand) C {
	return C{Row: pick(r, 0, 4, 65535, r.Intn(65536)), Col: pick(r, 0, 2, 255, r.Intn(256))}
}

// random tells a formula that expr.Check takes, mostly.
func random(r *rand.Rand, depth int) E {
	if depth <= 1 || r.Intn(6) == 0 {
		return randomLeaf(r)
	}
	kid := func() E { return random(r, depth-1) }
	switch r.Intn(8) {
	case 0, 1:
		return unary(1+r.Intn(3), kid())
	case 2, 3, 4:
		return bin(1+r.Intn(12), kid(), kid())
	case 5:
		e := call(r.Intn(30))
		for range r.Intn(4) {
			e.Kids = append(e.Kids, kid())
		}
		return e
	}
	return paren(kid())
}

func randomLeaf(r *rand.Rand) E {
	switch r.Intn(10) {
	case 0:
		return text(pick(r, "", "a", `"`, `a"b`, "€", ",", strings.Repeat(`"`, 1000)))
	case 1:
		return truth(r.Intn(2) == 0)
	case 2:
		return fault(pick(r, 0, 7, 15, 23, 29, 36, 42))
	case 3:
		return cell(randomRef(r))
	case 4:
		return area(randomRef(r), randomRef(r))
	case 5:
		return onSheet(r.Intn(8), randomRef(r))
	case 6:
		return areaOnSheet(r.Intn(8), randomRef(r), randomRef(r))
	case 7:
		return name(pick(r, 0, 9, 1023))
	}
	d := dec.Norm(dec.Dec{M: pick(r, 0, 1, -1, 15, -15, math.MaxInt64, -math.MaxInt64, r.Int63()-r.Int63()), S: r.Intn(10)})
	return num(d.M, d.S)
}

// holdText holds what Text, and Strip, tell of e against the model.
func holdText(t *testing.T, e E, base C) {
	t.Helper()
	want, _ := write(e, base)
	if s, wrong := ftext.Text(e, base); s != want || wrong != api.OK {
		t.Fatalf("P1301: %s: %s, %v", brief(want), brief(s), wrong)
	}
	if !expr.Same(ftext.Strip(e), strip(e)) {
		t.Fatalf("P1301: stripped: %s", brief(want))
	}
}

// holdParse holds what Parse tells of s against the model.
func holdParse(t *testing.T, s string, base C) {
	t.Helper()
	want, wantAt, wantWrong := parse(s, base)
	if e, at, wrong := ftext.Parse(s, base); !expr.Same(e, want) || at != wantAt || wrong != wantWrong {
		t.Fatalf("P1301: %q: %v, %d, %v, not %v, %d, %v", brief(s), e, at, wrong, want, wantAt, wantWrong)
	}
}

func TestP1301TextOfRandom(t *testing.T) {
	r := rand.New(rand.NewSource(1301))
	for range 20000 {
		e := random(r, 2+r.Intn(8))
		if expr.Check(e) == api.OK {
			holdText(t, e, randomBase(r))
		}
	}
}

// TestP1302ThereAndBack: of what Text tells Parse tells what is the same
// stripped; only what brackets make too deep it does not take.
func TestP1302ThereAndBack(t *testing.T) {
	r := rand.New(rand.NewSource(1302))
	taken := 0
	for range 20000 {
		e, base := random(r, 2+r.Intn(12)), randomBase(r)
		s, wrong := ftext.Text(e, base)
		if wrong != api.OK {
			continue
		}
		back, at, wrong := ftext.Parse(s, base)
		switch {
		case wrong == api.OK:
			taken++
			if !expr.Same(ftext.Strip(back), ftext.Strip(e)) {
				t.Fatalf("P1302: %s: %v", brief(s), back)
			}
		case wrong != api.ErrDeep && wrong != api.ErrLong || at != 0:
			t.Fatalf("P1302: %s: %d, %v", brief(s), at, wrong)
		case wrong == api.ErrDeep && expr.Depth(e) <= 5:
			// below each of five one bracket and one minus more are 15 at most
			t.Fatalf("P1302: %s: %v", brief(s), wrong)
		}
	}
	if taken < 10000 {
		t.Errorf("P1302: %d alone were taken", taken)
	}
}

func TestP1302Pairs(t *testing.T) {
	for _, c := range bracketed {
		s, _ := ftext.Text(c.e, base)
		back, at, wrong := ftext.Parse(s, base)
		if strings.HasSuffix(s, "854775808") { // M is -2^63
			if wrong != api.ErrNum || at != 1 {
				t.Errorf("P1302: %s: %d, %v", s, at, wrong)
			}
			continue
		}
		if !expr.Same(ftext.Strip(back), ftext.Strip(c.e)) || at != 0 || wrong != api.OK {
			t.Errorf("P1302: %s: %v, %d, %v", s, back, at, wrong)
		}
	}
	for _, c := range pairs {
		back, _, _ := ftext.Parse(c.s, base)
		if !expr.Same(ftext.Strip(back), ftext.Strip(c.e)) {
			t.Errorf("P1302: %s: %v", brief(c.s), back)
		}
	}
}

// pieces are words and signs, right and wrong ones.
var pieces = []string{
	"1", "05", "1.5", "1.50", ".", "A1", "$B$2", "C$3", "$D4", "ZZ1", "A", "$", "'", "A1$2",
	`"a"`, `"`, `""`, "#N/A", "#NUM!", "#", "TRUE", "FALSE", "SUM(", "NA()", "FOO(", "SUM", "(", ")", ",", ":", "!",
	"S1!", "S9!", "S0!", "S1!A1", "N5'", "N1024'", "N5", "+", "-", "*", "/", "^", "&", "=", "<>", "<", "<=", ">", ">=", "%",
	" ", "  ", "a", "€", "\xff", "\t",
}

func TestP1301ParseOfRandomPieces(t *testing.T) {
	r := rand.New(rand.NewSource(1303))
	for range 300000 {
		var b strings.Builder
		for range 1 + r.Intn(9) {
			b.WriteString(pick(r, pieces...))
			b.WriteString(pick(r, "", "", " "))
		}
		holdParse(t, b.String(), randomBase(r))
	}
}

// TestP1301ParseOfAllPieces: all rows of a few pieces that mean most.
func TestP1301ParseOfAllPieces(t *testing.T) {
	for _, alphabet := range [][]string{
		{"1", "A1", "S1!", "SUM(", "(", ")", ",", ":", "-", "^", "%", "="},
		{"1.50", "ZZ1", "S1!", "S", "!", "FOO(", "(", "A1", ":", " ", "TRUE", "N5'"},
		{"<", ">", "=", "1", "-", "&", "*", "%", " ", "^"},
		{"A", "1", "$", "'", "N", "S", "!", "(", "0", ":"},
		{`"`, "a", "\xff", " ", "#N/A", "#", "1", "&"},
	} {
		rows := []string{""}
		for range 5 {
			var longer []string
			for _, row := range rows {
				for _, piece := range alphabet {
					if len(rows) <= len(alphabet)*len(alphabet)*len(alphabet) || len(alphabet) <= 10 {
						longer = append(longer, row+piece)
					}
				}
			}
			for _, s := range longer {
				holdParse(t, s, base)
			}
			rows = longer
		}
	}
}

// TestP1301ParseOfSpoilt: words of formulas, with something put in, taken out or
// put in place of another.
func TestP1301ParseOfSpoilt(t *testing.T) {
	r := rand.New(rand.NewSource(1304))
	for range 60000 {
		e, base := random(r, 2+r.Intn(5)), randomBase(r)
		s, wrong := ftext.Text(e, base)
		if wrong != api.OK || len(s) > 2000 {
			continue
		}
		for range r.Intn(3) {
			i := r.Intn(len(s) + 1)
			j := min(len(s), i+r.Intn(3))
			s = s[:i] + pick(r, "", "", pick(r, pieces...)) + s[j:]
		}
		holdParse(t, s, base)
	}
}
