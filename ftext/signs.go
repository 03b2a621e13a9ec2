package ftext

import (
	"strings"

	"cashbook/expr"
)

// How much what a formula is made of binds, from least on.
const (
	bindsNothing = iota // what is open: a bracket
	bindsComparison
	bindsJoin
	bindsSum
	bindsProduct
	bindsPower
	bindsAhead // minus, plus
	bindsPercent
	bindsMost
)

// The Ops of a Unary.
const (
	opMinus   = 1
	opPlus    = 2
	opPercent = 3
)

// The signs that are more than those of a Bin.
const (
	signMinus   = "-"
	signPlus    = "+"
	signPercent = "%"
	signOpen    = "("
	signClose   = ")"
	signNext    = "," // between a function's Kids
	signTo      = ":" // between an area's corners
)

// bins tells of each Op of a Bin its sign, and how much that binds. Of 0 there
// is none.
var bins = [...]struct {
	sign  string
	binds int
}{
	1:  {signPlus, bindsSum},
	2:  {signMinus, bindsSum},
	3:  {"*", bindsProduct},
	4:  {"/", bindsProduct},
	5:  {"^", bindsPower},
	6:  {"&", bindsJoin},
	7:  {"=", bindsComparison},
	8:  {"<>", bindsComparison},
	9:  {"<", bindsComparison},
	10: {"<=", bindsComparison},
	11: {">", bindsComparison},
	12: {">=", bindsComparison},
}

// binOf tells the Op of the Bin that has this sign; 0 where none has.
func binOf(sign string) int {
	for op := 1; op < len(bins); op++ {
		if bins[op].sign == sign {
			return op
		}
	}
	return 0
}

// aheadOf tells the Op of the Unary that has this sign ahead; 0 where none has.
func aheadOf(sign string) int {
	switch sign {
	case signMinus:
		return opMinus
	case signPlus:
		return opPlus
	}
	return 0
}

// signOf tells the sign that s begins with: of two the longer one. Of what is
// no sign the first byte is enough to be none.
func signOf(s string) string {
	sign := s[:1]
	for _, bin := range bins {
		if len(bin.sign) > len(sign) && strings.HasPrefix(s, bin.sign) {
			sign = bin.sign
		}
	}
	return sign
}

// binding tells how much e binds.
func binding(e expr.Expr) int {
	switch {
	case e.Kind == expr.Bin:
		return bins[e.Op].binds
	case e.Kind == expr.Unary && e.Op == opPercent:
		return bindsPercent
	case e.Kind == expr.Unary, isBelowNought(e):
		return bindsAhead
	}
	return bindsMost
}

// leastAhead tells how much what stands ahead of a Bin's sign is to bind: one
// that is alike comes first, but ahead of a power.
func leastAhead(op int) int {
	if bins[op].binds == bindsPower {
		return bindsPower + 1
	}
	return bins[op].binds
}

// leastBehind tells how much what stands behind a Bin's sign is to bind.
func leastBehind(op int) int { return bins[op].binds + 1 }
