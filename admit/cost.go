package admit

import (
	"slices"

	"ergo/arith"
	"ergo/column"
	"ergo/syntax"
)

// neverImproves reports whether the rule computes its cost from that of the atom
// in the required way, by which it is never better than that.
func neverImproves(r syntax.Rule, from syntax.Atom, greatest bool) bool {
	old, ok := costOf(from)
	if !ok || countOf(r, old) != 2 {
		return false
	}
	cost, ok := costOf(r.Head)
	if !ok {
		return false
	}
	return cost == old || countOf(r, cost) == 2 && slices.ContainsFunc(r.Body, func(part syntax.Part) bool {
		return part.Form == syntax.Let && part.Name == cost.Text && worsens(r, part.Expr, old, greatest)
	})
}

// costOf returns the atom's last term, and whether it is a variable.
func costOf(a syntax.Atom) (syntax.Term, bool) {
	if len(a.Args) == 0 {
		return syntax.Term{}, false
	}
	last := a.Args[len(a.Args)-1]
	return last, last.Kind == syntax.Var
}

// countOf returns how often the variable occurs in the rule.
func countOf(r syntax.Rule, variable syntax.Term) int {
	names := r.Head.Vars()
	for _, part := range r.Body {
		names = append(names, part.Vars()...)
	}
	count := 0
	for _, name := range names {
		if name == variable.Text {
			count++
		}
	}
	return count
}

// worsens reports whether the expression is the old cost and something that is
// never below 0: added to it, or, of greatest costs, subtracted from it.
func worsens(r syntax.Rule, x syntax.Expr, old syntax.Term, greatest bool) bool {
	if len(x.Kids) != 2 {
		return false
	}
	left, right := x.Kids[0], x.Kids[1]
	switch {
	case greatest:
		return x.Op == arith.Sub && is(left, old) && isNatural(r, right)
	case x.Op != arith.Add:
		return false
	}
	return is(left, old) && isNatural(r, right) || is(right, old) && isNatural(r, left)
}

// is reports whether the expression is just that term.
func is(x syntax.Expr, term syntax.Term) bool {
	return len(x.Kids) != 2 && x.Term == term
}

// isNatural reports whether the expression is a number that is not below 0, or a
// variable that a part of the rule's body keeps from being below 0.
func isNatural(r syntax.Rule, x syntax.Expr) bool {
	if len(x.Kids) == 2 {
		return false
	}
	return isNaturalNumber(x.Term) || x.Term.Kind == syntax.Var && slices.ContainsFunc(r.Body, func(part syntax.Part) bool {
		return part.Form == syntax.Cmp && part.Op == column.Ge && part.A == x.Term && isNaturalNumber(part.B)
	})
}

func isNaturalNumber(t syntax.Term) bool {
	return t.Kind == syntax.Int && t.N >= 0
}
