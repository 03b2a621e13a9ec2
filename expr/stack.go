package expr

// stack is where a way through a tree is: for each one from the root down to
// the one that was taken last, what stands behind it among the same Kids.
type stack [][]Expr

// start tells where a way through e begins: e comes first.
func start(e Expr) stack { return stack{{e}} }

// next takes the next one: the first Kid of what was entered, else the one
// behind it, or behind the nearest above that has one. By a false there is none.
func (s *stack) next() (Expr, bool) {
	l := *s
	for len(l) > 0 && len(l[len(l)-1]) == 0 {
		l = l[:len(l)-1]
	}
	*s = l
	if len(l) == 0 {
		return Expr{}, false
	}
	top := l[len(l)-1]
	l[len(l)-1] = top[1:]
	return top[0], true
}

// enter has e's Kids come next.
func (s *stack) enter(e Expr) { *s = append(*s, e.Kids) }

// depth tells how deep the one stands that was taken last: 1 of the root.
func (s stack) depth() int { return len(s) }
