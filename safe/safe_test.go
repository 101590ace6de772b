package safe_test

import (
	"errors"
	"math/rand"
	"reflect"
	"slices"
	"strconv"
	"strings"
	"testing"

	"ergo/arith"
	"ergo/column"
	"ergo/fault"
	"ergo/parse"
	"ergo/safe"
	"ergo/syntax"
)

func vari(s string) syntax.Term { return syntax.Term{Kind: syntax.Var, Text: s} }
func num(n int64) syntax.Term   { return syntax.Term{Kind: syntax.Int, N: n} }

func atom(pred string, args ...syntax.Term) syntax.Atom {
	return syntax.Atom{Pred: pred, Args: args}
}

// program returns the program that the text denotes.
func program(t *testing.T, text string) *syntax.Program {
	t.Helper()
	p, err := parse.Program(text)
	if err != nil {
		t.Fatalf("Program(%q): %v", text, err)
	}
	return p
}

// rule returns the only rule of the text.
func rule(t *testing.T, text string) syntax.Rule {
	t.Helper()
	p := program(t, text)
	if len(p.Rules) != 1 {
		t.Fatalf("%q is not one rule", text)
	}
	return p.Rules[0]
}

// wantOrder fails unless Order of the rule returns these indices.
func wantOrder(t *testing.T, text string, want ...int) {
	t.Helper()
	got, err := safe.Order(rule(t, text))
	if err != nil || !slices.Equal(got, want) {
		t.Errorf("Order(%q) = %v, %v, want %v", text, got, err, want)
	}
}

// wantUnsafe fails unless Order of the rule returns that fault, with What as want.
func wantUnsafe(t *testing.T, text string, at int, want string) {
	t.Helper()
	got, err := safe.Order(rule(t, text))
	if len(got) != 0 {
		t.Errorf("Order(%q) = %v beside %v", text, got, err)
	}
	wantFault(t, err, at, want)
}

// wantFault fails unless err is Unsafe, with that position and What, and wraps nothing.
func wantFault(t *testing.T, err error, at int, what string) {
	t.Helper()
	var f *fault.Fault
	if !errors.As(err, &f) || *f != (fault.Fault{Tag: fault.Unsafe, At: at, What: what}) {
		t.Errorf("%v, want unsafe at %d (%s)", err, at, what)
	}
}

// The chapter's example, and the document's.
func TestExamples(t *testing.T) {
	wantOrder(t, "p(X) :- Y < 3, q(X,Y), not r(Y).", 1, 0, 2)
	wantUnsafe(t, "p(X) :- not q(X).", 0, "X")
}

// P16.1: a rule without parts has none in its order.
func TestOrderOfFacts(t *testing.T) {
	wantOrder(t, "p(1,a).")
	wantUnsafe(t, "p(X).", 0, "X")
	wantUnsafe(t, "p(1,Y,X).", 0, "Y")
}

// P16.1: positive atoms can always be evaluated, and stay in their order.
func TestOrderOfPositiveAtoms(t *testing.T) {
	wantOrder(t, "p(X) :- q(X).", 0)
	wantOrder(t, "p(X) :- r(Y,Z), q(1), q(X), r(X,Y).", 0, 1, 2, 3)
	wantOrder(t, "p(X) :- q(X), q(X).", 0, 1)
}

// P16.1: a negative atom needs all its variables.
func TestOrderOfNegativeAtoms(t *testing.T) {
	wantOrder(t, "p(1) :- not q(1), r(X).", 0, 1)
	wantOrder(t, "p(X) :- not q(X), r(X).", 1, 0)
	wantOrder(t, "p(X) :- not q(X,Y), r(X), r(Y).", 1, 2, 0)
	wantOrder(t, "p(X) :- not q(X,1,X), r(X), r(Y).", 1, 0, 2)
}

// P16.1: a comparison needs the variables of both sides, even if it is =.
func TestOrderOfComparisons(t *testing.T) {
	wantOrder(t, "p(1) :- 1 < 2, a != b.", 0, 1)
	for _, sign := range []string{"=", "!=", "<", "<=", ">", ">="} {
		wantOrder(t, "p(X) :- X "+sign+" Y, r(X), r(Y).", 1, 2, 0)
		wantOrder(t, "p(X) :- X "+sign+" 1, r(X), r(Y).", 1, 0, 2)
		wantOrder(t, "p(X) :- 1 "+sign+" X, r(X), r(Y).", 1, 0, 2)
		wantUnsafe(t, "p(X) :- X "+sign+" 1.", 0, "X")
		wantUnsafe(t, "p(1) :- q(X), X "+sign+" Y.", 1, "Y")
	}
}

// P16.1: a Let needs the variables of its expression, and binds its own.
func TestOrderOfLets(t *testing.T) {
	wantOrder(t, "p(X) :- X := 1.", 0)
	wantOrder(t, "p(X) :- X > 0, X := 1 + 2.", 1, 0)
	wantOrder(t, "p(Z) :- Z := X + Y, q(Y), r(X).", 1, 2, 0)
	wantOrder(t, "p(Z) :- Z := Y * 2, Y := X - 1, X := 5.", 2, 1, 0)
	wantOrder(t, "p(X) :- X := 5, X > Y, Y := X - 1.", 0, 2, 1)
	// Its own variable may be bound before, and may be in its expression then.
	wantOrder(t, "p(X) :- q(X), X := 5.", 0, 1)
	wantOrder(t, "p(X) :- X := X * X, q(X).", 1, 0)
	wantOrder(t, "p(X) :- not q(X), X := 1, X := 2.", 1, 0, 2)
}

// P16.1: the next part is the first one that can be evaluated, and not the next
// one behind the one before.
func TestFirstPartThatCanBeEvaluated(t *testing.T) {
	wantOrder(t, "p(X) :- X < Y, Y > 2, not r(Y), q(Y), s(Y), s(X).", 3, 1, 2, 4, 5, 0)
	wantOrder(t, "p(X) :- not a(X), B := X, not b(B), q(X), q(Y).", 3, 0, 1, 2, 4)
	wantOrder(t, "p(X) :- C := B, B := A, A := 1, q(X), not q(C).", 2, 1, 0, 3, 4)
}

// P16.1: parts remain: the fault names the first of them.
func TestRemainingParts(t *testing.T) {
	wantUnsafe(t, "p(1) :- not q(X), r(Y).", 0, "X")
	wantUnsafe(t, "p(1) :- q(Y), not r(Y), not q(X), Z < 1.", 2, "X")
	wantUnsafe(t, "p(1) :- Y < 1, Z < 1, q(Y).", 1, "Z")
	wantUnsafe(t, "p(1) :- r(Y), X := X + 1.", 1, "X")
	wantUnsafe(t, "p(1) :- X := Y, Y := X.", 0, "Y")
}

// P16.1: What is the first variable that the part lacks.
func TestFirstVariableThatLacks(t *testing.T) {
	wantUnsafe(t, "p(1) :- not q(B,A).", 0, "B")
	wantUnsafe(t, "p(1) :- not q(1,B,A), r(B).", 0, "A")
	wantUnsafe(t, "p(1) :- B < A.", 0, "B")
	wantUnsafe(t, "p(1) :- B < A, r(B).", 0, "A")
	wantUnsafe(t, "p(1) :- A := C + B.", 0, "C")
	wantUnsafe(t, "p(1) :- A := C + (2 - B) * D, r(C).", 0, "B")
	wantUnsafe(t, "p(1) :- A := B + A.", 0, "B")
	wantUnsafe(t, "p(1) :- A := B + A, r(B).", 0, "A")
}

// P16.1: the head's variables must be bound in the end.
func TestHeads(t *testing.T) {
	wantUnsafe(t, "p(X) :- q(Y).", 1, "X")
	wantUnsafe(t, "p(Y,1,X,Z) :- q(Y), not r(Y), 1 < 2.", 3, "X")
	wantUnsafe(t, "p(Z,X) :- q(Y).", 1, "Z")
	// A part that can't be evaluated comes first.
	wantUnsafe(t, "p(X) :- q(Y), Z < 1.", 1, "Z")
	for _, word := range []string{"count", "sum", "min", "max"} {
		wantOrder(t, "p(X,"+word+"<Y>) :- q(X,Y).", 0)
		wantUnsafe(t, "p(X,"+word+"<Y>) :- q(X,Z).", 1, "Y")
	}
}

// P16.2: the orders of all rules, in order.
func TestCheck(t *testing.T) {
	p := program(t, "@min p. p(X) :- Y < 3, q(X,Y). q(1,2). r(X) :- q(X,Y), r(Y).")
	got, err := safe.Check(p)
	if err != nil || len(got) != 3 || !slices.Equal(got[0], []int{1, 0}) || len(got[1]) != 0 || !slices.Equal(got[2], []int{0, 1}) {
		t.Errorf("Check() = %v, %v", got, err)
	}
	for _, p := range []*syntax.Program{nil, {}, program(t, "@min p.")} {
		if got, err := safe.Check(p); len(got) != 0 || err != nil {
			t.Errorf("Check() = %v, %v", got, err)
		}
	}
}

// P16.2: the first fault is wrapped.
func TestCheckFaults(t *testing.T) {
	for text, want := range map[string]string{
		"p(X) :- not q(X).":                      "unsafe at 0 (p): unsafe at 0 (X)",
		"p(1). p(X).":                            "unsafe at 1 (p): unsafe at 0 (X)",
		"p(1). q(1) :- p(Y), Z > 1. r(A). s(B).": "unsafe at 1 (q): unsafe at 1 (Z)",
		"a(1). b(1). c(X,Y) :- a(X), b(X).":      "unsafe at 2 (c): unsafe at 2 (Y)",
	} {
		got, err := safe.Check(program(t, text))
		if got != nil || err == nil || err.Error() != want {
			t.Errorf("Check(%q) = %v, %v, want %s", text, got, err, want)
			continue
		}
		if fault.Of(err) != fault.Unsafe || fault.Depth(err) != 2 || !errors.Is(err, fault.Unsafe) {
			t.Errorf("Check(%q): %v has tag %v and depth %d", text, err, fault.Of(err), fault.Depth(err))
		}
	}
}

// P16.1: against the definition, for random rules.
func TestRandomRules(t *testing.T) {
	r := rand.New(rand.NewSource(1))
	faults := 0
	for range 20000 {
		rule := randomRule(r)
		order, err := safe.Order(rule)
		if err != nil {
			faults++
		}
		holdsDefinition(t, rule, order, err)
	}
	if faults < 2000 || faults > 18000 {
		t.Errorf("%d faults", faults)
	}
}

// required returns the variables that must be bound before the part.
func required(p syntax.Part) []string {
	switch p.Form {
	case syntax.Pos:
		return nil
	case syntax.Let:
		return p.Vars()[1:]
	}
	return p.Vars()
}

// isBound reports whether all of list are bound.
func isBound(list, bound []string) bool {
	return !slices.ContainsFunc(list, func(name string) bool { return !slices.Contains(bound, name) })
}

// firstUnbound returns the first of list that is not bound.
func firstUnbound(list, bound []string) string {
	return list[slices.IndexFunc(list, func(name string) bool { return !slices.Contains(bound, name) })]
}

// holdsDefinition fails unless Order may return this order and this fault.
func holdsDefinition(t *testing.T, r syntax.Rule, order []int, err error) {
	t.Helper()
	// Which parts can be evaluated at all doesn't depend on the order.
	var bound []string
	reached := make([]bool, len(r.Body))
	for range r.Body {
		for i, part := range r.Body {
			if !reached[i] && isBound(required(part), bound) {
				reached[i] = true
				bound = append(bound, part.Vars()...)
			}
		}
	}
	if at := slices.Index(reached, false); at >= 0 {
		wantFault(t, err, at, firstUnbound(required(r.Body[at]), bound))
		return
	}
	if !isBound(r.Head.Vars(), bound) {
		wantFault(t, err, len(r.Body), firstUnbound(r.Head.Vars(), bound))
		return
	}
	if sorted := slices.Sorted(slices.Values(order)); err != nil || !slices.Equal(sorted, numbers(len(r.Body))) {
		t.Fatalf("Order(%v) = %v, %v", r, order, err)
	}
	holdsFirst(t, r, order)
}

// holdsFirst fails unless each part in order is the first one that can be evaluated.
func holdsFirst(t *testing.T, r syntax.Rule, order []int) {
	t.Helper()
	var bound []string
	for n, i := range order {
		for k, part := range r.Body[:i+1] {
			if slices.Contains(order[:n], k) {
				continue
			}
			if isBound(required(part), bound) != (k == i) {
				t.Fatalf("Order(%v) = %v: part %d is not right", r, order, i)
			}
		}
		bound = append(bound, r.Body[i].Vars()...)
	}
}

// numbers returns the numbers from 0 on.
func numbers(count int) []int {
	list := make([]int, count)
	for i := range list {
		list[i] = i
	}
	return list
}

func randomTerm(r *rand.Rand) syntax.Term {
	if r.Intn(4) == 0 {
		return num(1)
	}
	return vari(string(rune('A' + r.Intn(5))))
}

func randomAtom(r *rand.Rand) syntax.Atom {
	a := atom("p")
	for range 1 + r.Intn(2) {
		a.Args = append(a.Args, randomTerm(r))
	}
	return a
}

func randomRule(r *rand.Rand) syntax.Rule {
	rule := syntax.Rule{Head: randomAtom(r)}
	for range r.Intn(8) {
		// Mostly positive atoms, because otherwise few rules are safe.
		part := syntax.Part{Form: syntax.Form(max(0, r.Intn(8)-4))}
		switch part.Form {
		case syntax.Pos, syntax.Neg:
			part.Atom = randomAtom(r)
		case syntax.Cmp:
			part.Op, part.A, part.B = column.Lt, randomTerm(r), randomTerm(r)
		case syntax.Let:
			part.Name = vari(string(rune('A' + r.Intn(5)))).Text
			kids := []syntax.Expr{{Term: randomTerm(r)}, {Term: randomTerm(r)}}
			part.Expr = syntax.Expr{Op: arith.Mul, Kids: kids}
		}
		rule.Body = append(rule.Body, part)
	}
	return rule
}

// Rule 1: Order and Check end for rules that no text denotes.
func TestOddRules(t *testing.T) {
	if got, err := safe.Order(syntax.Rule{}); len(got) != 0 || err != nil {
		t.Errorf("Order of an empty rule = %v, %v", got, err)
	}
	odd := syntax.Rule{Body: []syntax.Part{{Form: -1}, {Form: 9}, {}, {Form: syntax.Neg}, {Form: syntax.Let}}}
	safe.Order(odd)
	safe.Check(&syntax.Program{Rules: []syntax.Rule{odd, {}}})
	// A variable without a name is one as well.
	_, err := safe.Order(syntax.Rule{Head: atom("p", vari(""))})
	wantFault(t, err, 0, "")
	_, err = safe.Order(syntax.Rule{Body: []syntax.Part{{Form: syntax.Cmp, A: vari(""), B: num(1)}}})
	wantFault(t, err, 0, "")
}

// Rule 1: a long body, of which the last part comes first.
func TestLongBody(t *testing.T) {
	const count = 500
	r := syntax.Rule{Head: atom("p", vari("V0"))}
	var want []int
	for i := range count {
		part := syntax.Part{Form: syntax.Let, Name: "V" + strconv.Itoa(i)}
		part.Expr.Term = vari("V" + strconv.Itoa(i+1))
		r.Body = append(r.Body, part)
		want = append(want, count-i)
	}
	r.Body = append(r.Body, syntax.Part{Form: syntax.Pos, Atom: atom("q", vari("V"+strconv.Itoa(count)))})
	if got, err := safe.Order(r); err != nil || !slices.Equal(got, append(want, 0)) {
		t.Errorf("Order() = %v, %v", got, err)
	}
}

// Rule 1: an expression as deep as the document's bound.
func TestDeepExpression(t *testing.T) {
	x := syntax.Expr{Term: vari("A")}
	for range 1<<16 - 1 {
		x = syntax.Expr{Op: arith.Add, Kids: []syntax.Expr{{Term: num(1)}, x}}
	}
	r := syntax.Rule{Head: atom("p", vari("B")), Body: []syntax.Part{
		{Form: syntax.Let, Name: "B", Expr: x},
		{Form: syntax.Pos, Atom: atom("q", vari("A"))},
	}}
	if got, err := safe.Order(r); err != nil || !slices.Equal(got, []int{1, 0}) {
		t.Errorf("Order() = %v, %v", got, err)
	}
}

// Rule 3: arguments are not modified, and results share no memory.
func TestResultsAreSeparate(t *testing.T) {
	const text = "p(X) :- Y < 3, q(X,Y), Z := Y.\np(X) :- Y < 3, q(X,Y), Z := Y.\n"
	p := program(t, text)
	first, err := safe.Check(p)
	if err != nil || !reflect.DeepEqual(p, program(t, text)) {
		t.Fatalf("Check(%q): %v, and the program is now %v", text, err, p)
	}
	first[0][0] = 9
	_ = append(first[0][:1], 9, 9, 9)
	_ = append(first[0], 9)
	second, _ := safe.Check(p)
	if want := []int{1, 0, 2}; !slices.Equal(first[1], want) || !slices.Equal(second[0], want) || !slices.Equal(second[1], want) {
		t.Errorf("Check() = %v, and then %v", first, second)
	}
	if !strings.HasPrefix(p.String(), "p(X) :- Y < 3") {
		t.Errorf("the program is now %v", p)
	}
}
