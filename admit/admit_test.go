package admit_test

import (
	"errors"
	"fmt"
	"math"
	"reflect"
	"testing"

	"ergo/admit"
	"ergo/arith"
	"ergo/column"
	"ergo/fault"
	"ergo/group"
	"ergo/parse"
	"ergo/strata"
	"ergo/syntax"
)

// program returns the program that the text denotes.
func program(t *testing.T, text string) *syntax.Program {
	t.Helper()
	p, err := parse.Program(text)
	if err != nil {
		t.Fatalf("Program(%q): %v", text, err)
	}
	return p
}

// check returns what Check returns for the program and its strata.
func check(t *testing.T, p *syntax.Program) error {
	t.Helper()
	list, err := strata.Check(p)
	if err != nil {
		t.Fatalf("strata of %v: %v", p, err)
	}
	return admit.Check(p, list)
}

// wantAdmitted fails unless Check of the program returns nil.
func wantAdmitted(t *testing.T, text string) {
	t.Helper()
	if err := check(t, program(t, text)); err != nil {
		t.Errorf("Check(%q): %v", text, err)
	}
}

// isFault reports whether err is the fault Admit with these fields.
func isFault(err error, at int, what string) bool {
	var f *fault.Fault
	return errors.As(err, &f) && *f == fault.Fault{Tag: fault.Admit, At: at, What: what}
}

// wantFault fails unless Check of the program returns Admit at that number with
// that What.
func wantFault(t *testing.T, text string, at int, what string) {
	t.Helper()
	if err := check(t, program(t, text)); !isFault(err, at, what) {
		t.Errorf("Check(%q): %v, want admit at %d (%s)", text, err, at, what)
	}
}

// The chapter's example.
func TestExample(t *testing.T) {
	wantAdmitted(t, "@min d. d(X,0) :- s(X). d(Y,D) :- d(X,C), e(X,Y,W), W >= 0, D := C + W.")
}

// P19.1: programs without declarations are admissible, whatever they do.
func TestNoDeclarations(t *testing.T) {
	wantAdmitted(t, "")
	wantAdmitted(t, "p(1). q(count<X>) :- p(X).")
	wantAdmitted(t, "p(X,D) :- p(X,C), p(D,C), D := C - 1. q(X,C) :- r(X,C). r(X,C) :- q(X,C), r(C,X).")
	if err := admit.Check(nil, nil); err != nil {
		t.Errorf("Check(nil) = %v", err)
	}
}

// P19.1: a declared predicate may stand in a head, or in a positive or negative
// atom of a body.
func TestDeclaredPredicatesOccur(t *testing.T) {
	wantAdmitted(t, "@min p. p(1).")
	wantAdmitted(t, "@max q. p(X) :- r(X), q(X).")
	wantAdmitted(t, "@min q. p(X) :- r(X), not q(X).")
	wantAdmitted(t, "@min r. @max q. @min p. p(X) :- r(X), not q(X).")
	wantAdmitted(t, "p(1). @min p. q(X) :- p(X). @max q.")
}

// P19.1: a declaration of a predicate that no rule contains is a fault.
func TestDeclaredPredicatesThatDoNotOccur(t *testing.T) {
	wantFault(t, "@min p.", 0, "p")
	wantFault(t, "@min q. p(1).", 0, "q")
	wantFault(t, "@max p. @max q. p(1).", 1, "q")
	// A symbol and a variable are no predicates.
	wantFault(t, "@min q. p(q).", 0, "q")
	wantFault(t, `@min q. p("q",Q) :- r(Q), Q = q.`, 0, "q")
}

// P19.1: a second declaration of a predicate is a fault, in the same way or in
// the other one.
func TestDeclaredTwice(t *testing.T) {
	wantFault(t, "@min d. @min d. d(1).", 1, "d")
	wantFault(t, "@max d. @max d. d(1).", 1, "d")
	wantFault(t, "@min d. @max d. d(1).", 1, "d")
	wantFault(t, "@max a. @min b. @min c. @min b. @max a. a(1). b(1). c(1).", 3, "b")
}

// P19.1: the first declaration with a fault, of the one kind or the other, is
// the one that is returned.
func TestFirstDeclaration(t *testing.T) {
	wantFault(t, "@min d. @min d. @min q. d(1).", 1, "d")
	wantFault(t, "@min d. @min q. @min d. d(1).", 1, "q")
	wantFault(t, "@min q. @min q. d(1).", 0, "q")
}

// P19.1: declarations come before rules.
func TestDeclarationsBeforeRules(t *testing.T) {
	wantFault(t, "@min d. d(X,min<C>) :- e(X,C). e(1,2). @max e. @max q.", 2, "q")
	wantFault(t, "@min d. d(X,C) :- d(X,C), d(C,X). @min d.", 1, "d")
}

// P19.1: a rule with an aggregate and a declared head is a fault, whether its
// stratum loops or not.
func TestAggregatesInDeclaredHeads(t *testing.T) {
	for _, word := range []string{"count", "sum", "min", "max"} {
		wantFault(t, "@min d. d(X,"+word+"<C>) :- e(X,C).", 0, "d")
		wantFault(t, "@max d. d(X,1) :- e(X,X). d(X,"+word+"<C>) :- e(X,C).", 1, "d")
		wantFault(t, "@min d. d(X,C) :- d(X,C), s(X). d(X,"+word+"<C>) :- e(X,C).", 1, "d")
	}
}

// P19.1: other heads may have aggregates, also of declared predicates' rows, and
// declared heads may lie above them.
func TestOtherAggregates(t *testing.T) {
	wantAdmitted(t, "@min d. d(X,C) :- e(X,C). c(X,sum<C>) :- d(X,C).")
	wantAdmitted(t, "@min d. c(X,max<C>) :- e(X,C). d(X,C) :- c(X,C).")
	wantAdmitted(t, "@max d. c(count<X>) :- d(X,C). d(X,C) :- d(X,C), s(X).")
}

// P19.1: nothing else is required of a rule whose stratum does not loop, or has
// no declared predicate.
func TestStrataOfWhichNothingIsRequired(t *testing.T) {
	wantAdmitted(t, "@min d. d(X,D) :- e(X,C), e(C,X), D := C - 1.")
	// The costs of another stratum may be used in any way.
	wantAdmitted(t, "@min d. @max e. e(X,D) :- d(X,C), d(C,X), D := C * 2. d(X,C) :- s(X,C).")
	wantAdmitted(t, "@min d. d(X,C) :- s(X,C). p(X,D) :- p(X,C), p(C,X), d(X,W), D := C - W.")
	// A loop elsewhere.
	wantAdmitted(t, "@max d. d(X,D) :- t(X,C), t(C,X), D := C + 1. t(X,Z) :- t(X,Y), t(Y,Z).")
}

// P19.1: of a stratum that loops, all predicates must be declared if one is. The
// fault is at the first rule of the stratum, be it recursive or not.
func TestPartlyDeclared(t *testing.T) {
	wantFault(t, "@min d. d(X,C) :- p(X,C). p(X,C) :- d(X,C).", 0, "d")
	wantFault(t, "@min d. p(X,C) :- d(X,C). d(X,C) :- p(X,C).", 0, "p")
	wantFault(t, "@max d. e(1,2). p(1,2). d(X,C) :- p(X,C), e(X,C). p(X,C) :- d(X,C).", 1, "p")
	wantFault(t, "@max a. @max b. s(1,2). a(X,C) :- b(X,C). b(X,C) :- c(X,C). c(X,C) :- a(X,C).", 1, "a")
	wantFault(t, "@min z. s(1,2). a(1,2). a(X,C) :- z(X,C). z(X,C) :- a(X,C).", 1, "a")
}

// P19.1: and in the same way.
func TestDeclaredInBothWays(t *testing.T) {
	wantFault(t, "@min d. @max p. d(X,C) :- p(X,C). p(X,C) :- d(X,C).", 0, "d")
	wantFault(t, "@max d. @min p. s(1). d(X,C) :- p(X,C). p(X,C) :- d(X,C).", 1, "d")
	wantFault(t, "@max a. @max b. @min c. s(1). b(1,1). a(X,C) :- b(X,C). b(X,C) :- c(X,C). c(X,C) :- a(X,C).", 1, "b")
	wantAdmitted(t, "@min d. @min p. d(X,C) :- p(X,C). p(X,C) :- d(X,C).")
	wantAdmitted(t, "@max d. @max p. d(X,C) :- p(X,C). p(X,C) :- d(X,C).")
	// Strata of their own.
	wantAdmitted(t, "@min d. @max p. d(X,C) :- d(X,C). p(X,C) :- p(X,C), d(X,E).")
}

// P19.1: two positive atoms of the stratum in one body are a fault.
func TestTwoAtomsOfTheStratum(t *testing.T) {
	wantFault(t, "@min d. d(X,C) :- d(X,C), d(Y,C).", 0, "d")
	wantFault(t, "@min d. s(1). d(X,C) :- s(X), d(X,C), e(X), d(Y,E).", 1, "d")
	wantFault(t, "@min d. d(X,C) :- d(X,C), d(X,C).", 0, "d")
	wantFault(t, "@max d. @max p. d(X,C) :- p(X,C). p(X,C) :- d(X,C), p(Y,E).", 1, "p")
	wantFault(t, "@max d. @max p. d(X,C) :- p(X,C). p(X,D) :- d(X,C), p(Y,E), d(Z,F), D := C - 1.", 1, "p")
}

// P19.1: atoms of other strata do not count, declared or not, nor do negative
// ones and declared heads.
func TestAtomsOfOtherStrata(t *testing.T) {
	wantAdmitted(t, "@min d. d(X,C) :- e(X,Y), d(Y,C), e(Y,X), not e(X,X).")
	wantAdmitted(t, "@min d. @min f. f(X,C) :- f(X,C). d(X,C) :- f(X,E), d(Y,C), f(X,F).")
	wantAdmitted(t, "@min d. @max f. f(X,C) :- f(X,C). d(X,C) :- d(Y,C), not f(X,1), s(X).")
}

// P19.1: a rule without a positive atom of its stratum computes its cost as it likes.
func TestNoAtomOfTheStratum(t *testing.T) {
	wantAdmitted(t, "@min d. d(1,-5). d(X,D) :- s(X,C), D := C - 7. d(X,C) :- s(C,C), s(X,C). d(X,C) :- d(X,C).")
}

// P19.1: the rules are checked in order, and the first fault is returned.
func TestFirstRule(t *testing.T) {
	wantFault(t, "@min d. d(X,C) :- d(X,C). d(X,D) :- d(X,C), D := C - 1. d(X,C) :- d(X,C), d(Y,C).", 1, "d")
	wantFault(t, "@min d. @max e. e(X,C) :- e(X,C). e(X,C) :- e(X,C), e(X,C). d(X,count<C>) :- s(X,C).", 1, "e")
	wantFault(t, "@min d. @max e. d(X,count<C>) :- s(X,C). e(X,C) :- e(X,C), e(X,C).", 0, "d")
}

// recursive returns a program whose rule 1 has that head and body, and whose
// predicate d is declared in that way.
func recursive(way, head, body string) string {
	return "@" + way + " d. d(X,Y,C) :- s(X,Y,C). " + head + " :- " + body + "."
}

// wantRules fails unless the rules with these bodies and that head are admissible.
func wantRules(t *testing.T, way, head string, bodies ...string) {
	t.Helper()
	for _, body := range bodies {
		wantAdmitted(t, recursive(way, head, body))
	}
}

// wantNoRules fails unless each of the rules with these bodies and that head is a fault.
func wantNoRules(t *testing.T, way, head string, bodies ...string) {
	t.Helper()
	for _, body := range bodies {
		wantFault(t, recursive(way, head, body), 1, "d")
	}
}

// P19.2: the cost may be that of the atom.
func TestSameCost(t *testing.T) {
	for _, way := range []string{"min", "max"} {
		wantRules(t, way, "d(X,Y,C)", "d(X,Y,C)", "d(Y,X,C), e(X)", "e(X), not f(X,Y), d(X,Z,C), Y := Z - 1, Y > 3")
		wantRules(t, way, "d(1,a,C)", "d(X,a,C)", "d(X,X,C), X != 2")
	}
	wantAdmitted(t, "@min n. n(C) :- n(C). n(5).")
	wantAdmitted(t, "@max n. n(C) :- n(C).")
}

// P19.2: what the atom's last term and the head's are must be variables.
func TestCostsThatAreNoVariables(t *testing.T) {
	for _, way := range []string{"min", "max"} {
		wantNoRules(t, way, "d(X,Y,C)", "d(X,Y,0), e(C)", "d(X,Y,7), C := 7", "d(X,C,a), e(Y)", "d(X,Y,a), f(C,C)")
		wantNoRules(t, way, "d(X,Y,0)", "d(X,Y,C)", "d(X,Y,C), e(C)", "d(X,Y,C), D := C + 1", "d(X,Y,0)", "d(X,Y,1)")
		wantNoRules(t, way, "d(X,Y,c)", "d(X,Y,C), e(C)", "d(X,Y,c)")
	}
}

// P19.2: the atom's cost occurs exactly twice in the rule.
func TestOccurrencesOfTheOldCost(t *testing.T) {
	for way, sum := range map[string]string{"min": "C + 1", "max": "C - 1"} {
		rest := "d(X,Y,C), D := " + sum
		wantRules(t, way, "d(X,Y,D)", rest)
		wantNoRules(t, way, "d(X,C,D)", rest+", e(Y)")
		wantNoRules(t, way, "d(X,Y,D)", rest+", e(C)", rest+", not e(C)", rest+", C < 10", rest+", 10 > C", rest+", E := C", rest+", C := 4",
			rest+", C >= 0", "d(C,Y,C), e(X), D := "+sum, "e(C), "+rest, rest+", e(D), E := C + 1")
		wantNoRules(t, way, "d(X,Y,C)", "d(X,Y,C), e(C)", "d(X,Y,C), C >= 0", "d(X,Y,C), not e(C)", "d(X,C,C), e(Y)", "d(X,Y,C), D := C + 1")
		wantNoRules(t, way, "d(X,C,C)", "d(X,Y,C)")
		// Once is too few.
		wantNoRules(t, way, "d(X,Y,D)", "d(X,Y,C), e(D)", "d(X,Y,C), D := 1 + 1", "d(X,Y,C), e(W), W >= 0, D := W + W")
	}
	wantNoRules(t, "min", "d(X,Y,D)", "d(X,Y,C), D := C + C", "d(X,Y,C), D := C + C, C >= 0")
	wantNoRules(t, "max", "d(X,Y,D)", "d(X,Y,C), D := C - C", "d(X,Y,C), D := C - C, C >= 0")
}

// P19.2: the head's cost occurs exactly twice too, once as the Name of the Let.
func TestOccurrencesOfTheNewCost(t *testing.T) {
	for way, sum := range map[string]string{"min": "C + 1", "max": "C - 1"} {
		rest := "d(X,Y,C), D := " + sum
		wantNoRules(t, way, "d(X,Y,D)", rest+", e(D)", "e(D), "+rest, rest+", not e(D)", rest+", D < 10", rest+", 3 = D", rest+", E := D",
			rest+", D := 4", "D := 4, "+rest, "d(D,Y,C), e(X), D := "+sum)
		wantNoRules(t, way, "d(X,D,D)", rest)
		wantNoRules(t, way, "d(D,Y,D)", rest)
		// The other time is not as a Name, or the Let does not have the atom's cost.
		wantNoRules(t, way, "d(X,Y,D)", "d(X,Y,C), E := "+sum+", e(D)", "d(X,Y,C), E := "+sum+", s(X,Y,D)", "d(X,Y,C), D := 5, E := "+sum,
			"d(X,Y,C), D := 5, e(C)", "d(X,Y,C), C = D", "d(X,Y,C), D = C", "d(X,Y,C), f(C,D)", "d(X,Y,C), E := D, C := 2")
	}
	wantNoRules(t, "min", "d(X,Y,D)", "d(X,Y,C), D := C + D", "d(X,Y,C), D := C + D, D >= 0")
	wantNoRules(t, "max", "d(X,Y,D)", "d(X,Y,C), D := C - D", "d(X,Y,C), D := C - D, D >= 0")
}

// P19.2: for min the expression is C + K or K + C with a number K.
func TestLeastWithNumbers(t *testing.T) {
	for _, n := range []string{"0", "1", "9223372036854775807"} {
		wantRules(t, "min", "d(X,Y,D)", "d(X,Y,C), D := C + "+n, "d(X,Y,C), D := "+n+" + C", "D := C + "+n+", d(X,Y,C)", "d(X,Y,C), D := (("+n+") + (C))")
		for _, op := range []string{" - ", " * ", " / ", " % "} {
			wantNoRules(t, "min", "d(X,Y,D)", "d(X,Y,C), D := C"+op+n, "d(X,Y,C), D := "+n+op+"C")
		}
	}
	for _, n := range []string{"-1", "-9223372036854775808"} {
		wantNoRules(t, "min", "d(X,Y,D)", "d(X,Y,C), D := C + "+n, "d(X,Y,C), D := "+n+" + C", "d(X,Y,C), D := C - "+n)
	}
}

// P19.2: for max it is C - K.
func TestGreatestWithNumbers(t *testing.T) {
	for _, n := range []string{"0", "1", "9223372036854775807"} {
		wantRules(t, "max", "d(X,Y,D)", "d(X,Y,C), D := C - "+n, "D := C - "+n+", d(X,Y,C)", "d(X,Y,C), D := ((C) - ("+n+"))")
		wantNoRules(t, "max", "d(X,Y,D)", "d(X,Y,C), D := "+n+" - C", "d(X,Y,C), D := "+n+" + C")
		for _, op := range []string{" + ", " * ", " / ", " % "} {
			wantNoRules(t, "max", "d(X,Y,D)", "d(X,Y,C), D := C"+op+n)
		}
	}
	for _, n := range []string{"-1", "-9223372036854775808"} {
		wantNoRules(t, "max", "d(X,Y,D)", "d(X,Y,C), D := C - "+n, "d(X,Y,C), D := C + "+n, "d(X,Y,C), D := "+n+" + C")
	}
}

// P19.2: K may be a variable W, if a part W >= n, wherever it stands, keeps it
// from being below 0.
func TestVariableSteps(t *testing.T) {
	for way, sums := range map[string][]string{"min": {"C + W", "W + C"}, "max": {"C - W"}} {
		for _, sum := range sums {
			rest := "d(X,Y,C), e(W), D := " + sum
			wantRules(t, way, "d(X,Y,D)", rest+", W >= 0", "W >= 0, "+rest, rest+", W >= 1", rest+", W >= 9223372036854775807",
				rest+", W >= -1, W >= 0", rest+", W >= 0, W >= -1", rest+", W != 4, e(4), W >= 2", "d(X,Y,C), D := "+sum+", W := 3 - 5, W >= 0")
			wantNoRules(t, way, "d(X,Y,D)", rest, rest+", W >= -1", rest+", W >= -9223372036854775808", rest+", 0 <= W", rest+", W > 0", rest+", W > -1",
				rest+", W = 0", rest+", W = 5", rest+", W <= 5", rest+", W < 5", rest+", W != 0", rest+", 5 >= W", rest+", 0 >= W", rest+", W >= X", rest+", X >= 0",
				rest+", f(V,V), V >= 0, W >= V", rest+", W >= a", "d(X,Y,C), W := 3, D := "+sum, rest+", f(V,V), V >= 0", rest+", 1 >= 0")
			// The variable may stand in the keys as well.
			wantRules(t, way, "d(X,W,D)", rest+", W >= 0")
			wantRules(t, way, "d(X,Y,D)", "d(X,W,C), e(Y), W >= 0, D := "+sum)
		}
	}
	wantNoRules(t, "max", "d(X,Y,D)", "d(X,Y,C), e(W), W >= 0, D := W - C", "d(X,Y,C), e(W), W >= 0, D := C + W", "d(X,Y,C), e(W), W >= 0, D := W + C")
	wantNoRules(t, "min", "d(X,Y,D)", "d(X,Y,C), e(W), W >= 0, D := C - W", "d(X,Y,C), e(W), W >= 0, D := W - C", "d(X,Y,C), e(W), W >= 0, D := C * W")
}

// P19.2: no other expression will do, though its value be the same.
func TestOtherExpressions(t *testing.T) {
	wantNoRules(t, "min", "d(X,Y,D)", "d(X,Y,C), D := C", "d(X,Y,C), D := C + (1 + 1)", "d(X,Y,C), D := C + 1 + 1", "d(X,Y,C), D := 1 + C + 1", "d(X,Y,C), D := (1 + 1) + C",
		"d(X,Y,C), D := 1 + (C + 1)", "d(X,Y,C), D := C * 1 + 1", "d(X,Y,C), D := 0 - C", "d(X,Y,C), E := C + 1, D := E + 0", "d(X,Y,C), E := C + 1, E = D")
	wantNoRules(t, "max", "d(X,Y,D)", "d(X,Y,C), D := C", "d(X,Y,C), D := C - (1 + 1)", "d(X,Y,C), D := C - 1 - 1", "d(X,Y,C), D := 0 - (1 - C)",
		"d(X,Y,C), D := C * 1 - 1", "d(X,Y,C), E := C - 1, D := E - 0")
}

// P19.2: the atom may be that of another predicate of the stratum.
func TestStrataOfSeveralPredicates(t *testing.T) {
	wantAdmitted(t, "@min a. @min b. a(X,C) :- b(X,Y,C). b(X,X,D) :- a(X,C), D := 2 + C. b(1,2,3).")
	wantAdmitted(t, "@max b. @max a. a(X,C) :- b(X,Y,C). b(X,X,D) :- a(X,C), D := C - 2. b(1,2,3).")
	wantFault(t, "@min a. @min b. a(X,C) :- b(X,Y,C). b(X,X,D) :- a(X,C), D := C - 2.", 1, "b")
	wantFault(t, "@max a. @max b. a(X,Y) :- b(X,Y,C). b(X,X,C) :- a(X,C).", 0, "a")
}

// Rule 1: rules without terms, expressions and parts that no text denotes, and
// strata of other predicates, do no harm.
func TestOddPrograms(t *testing.T) {
	c, d := syntax.Term{Text: "C"}, syntax.Term{Text: "D"}
	one := syntax.Expr{Term: syntax.Term{Kind: syntax.Int, N: 1}}
	old := syntax.Expr{Term: c}
	list := []strata.Stratum{{Preds: []string{"d"}, Loops: true}}
	for at, x := range []syntax.Expr{
		{Op: arith.Add},
		{Op: arith.Add, Kids: []syntax.Expr{old}},
		{Op: arith.Add, Kids: []syntax.Expr{old, one, one}},
		{Op: arith.Op(9), Kids: []syntax.Expr{old, one}},
		{Op: arith.Add, Kids: []syntax.Expr{old, {}}},
		{Op: arith.Add, Kids: []syntax.Expr{old, {Term: one.Term, Kids: []syntax.Expr{one, one}}}},
		{Op: arith.Add, Kids: []syntax.Expr{old, {Term: syntax.Term{Kind: syntax.Kind(7), N: 1}}}},
	} {
		r := syntax.Rule{Head: syntax.Atom{Pred: "d", Args: []syntax.Term{d}}, Body: []syntax.Part{
			{Atom: syntax.Atom{Pred: "d", Args: []syntax.Term{c}}},
			{Form: syntax.Let, Name: "D", Expr: x},
			{Form: syntax.Form(8), Op: column.Ge, Atom: syntax.Atom{Pred: "d", Args: []syntax.Term{c}}},
		}}
		if err := admit.Check(&syntax.Program{Decls: []syntax.Decl{{Pred: "d"}}, Rules: []syntax.Rule{r}}, list); !isFault(err, 0, "d") {
			t.Errorf("expression %d: %v", at, err)
		}
	}
	bare := syntax.Atom{Pred: "d"}
	for at, r := range []syntax.Rule{
		{Head: bare, Body: []syntax.Part{{Atom: bare}}},
		{Head: bare, Body: []syntax.Part{{Atom: syntax.Atom{Pred: "d", Args: []syntax.Term{c}}}, {Form: syntax.Let, Name: "D", Expr: old}}},
		{Head: bare, Agg: group.Agg(-1)},
	} {
		if err := admit.Check(&syntax.Program{Decls: []syntax.Decl{{Pred: "d"}}, Rules: []syntax.Rule{r}}, list); !isFault(err, 0, "d") {
			t.Errorf("rule %d: %v", at, err)
		}
	}
	odd := &syntax.Program{Decls: []syntax.Decl{{}}, Rules: []syntax.Rule{{}, {Head: bare}}}
	for _, list := range [][]strata.Stratum{nil, list, {{}}, {{Loops: true}}, {{Preds: []string{""}, Loops: true, Rules: []int{-1, math.MaxInt}}}} {
		_ = admit.Check(odd, list)
	}
}

// Rule 1: an expression as deep as the document's bound.
func TestDeepExpression(t *testing.T) {
	p := program(t, recursive("min", "d(X,Y,D)", "d(X,Y,C), D := C + 1"))
	x := &p.Rules[1].Body[1].Expr
	for range 1<<16 - 2 {
		*x = syntax.Expr{Op: arith.Add, Kids: []syntax.Expr{*x, {Term: syntax.Term{Kind: syntax.Int, N: 1}}}}
	}
	if err := check(t, p); !isFault(err, 1, "d") {
		t.Errorf("Check: %v", err)
	}
}

// Rule 3: arguments are not modified. Rule 4: the result is the same at each call.
func TestArgumentsStay(t *testing.T) {
	texts := map[string]string{
		"@min a. @min b. a(X,C) :- b(X,C), e(X). b(X,D) :- a(X,C), W >= 0, e(W), D := W + C.":                        "<nil>",
		"@min a. @max c. @min b. a(X,C) :- b(X,C), e(X). b(X,D) :- a(X,C), e(W), D := W + C. c(X,count<X>) :- e(X).": "admit at 1 (b)",
	}
	for text, want := range texts {
		p := program(t, text)
		list, _ := strata.Check(p)
		for range 20 {
			if got := fmt.Sprint(admit.Check(p, list)); got != want {
				t.Errorf("Check(%q): %s, want %s", text, got, want)
			}
		}
		again, _ := strata.Check(p)
		if !reflect.DeepEqual(p, program(t, text)) || !reflect.DeepEqual(list, again) {
			t.Errorf("Check(%q) modified its arguments", text)
		}
	}
}
