package strata_test

import (
	"errors"
	"fmt"
	"math/rand"
	"reflect"
	"slices"
	"strings"
	"testing"

	"ergo/fault"
	"ergo/group"
	"ergo/parse"
	"ergo/strata"
	"ergo/syntax"
)

// program returns the program that the text denotes.
func program(t *testing.T, text string) *syntax.Program {
	t.Helper()
	p, err := parse.Program(text)
	if err != nil {
		t.Fatalf("Program(%q): %v", text, err)
	}
	return p
}

// show returns the strata as a text: each with its predicates, a star if it
// loops, and its rules.
func show(list []strata.Stratum) string {
	var texts []string
	for _, s := range list {
		star := ""
		if s.Loops {
			star = "*"
		}
		texts = append(texts, fmt.Sprint(strings.Join(s.Preds, " "), star, s.Rules))
	}
	return strings.Join(texts, ", ")
}

// wantStrata fails unless Check of the program returns these strata, as show
// shows them.
func wantStrata(t *testing.T, text, want string) {
	t.Helper()
	list, err := strata.Check(program(t, text))
	if err != nil || show(list) != want {
		t.Errorf("Check(%q) = %s, %v, want %s", text, show(list), err, want)
	}
}

// wantCycle fails unless Check of the program returns Cycle at that rule with
// that What, and no strata.
func wantCycle(t *testing.T, text string, at int, what string) {
	t.Helper()
	list, err := strata.Check(program(t, text))
	var f *fault.Fault
	if !errors.As(err, &f) || *f != (fault.Fault{Tag: fault.Cycle, At: at, What: what}) {
		t.Errorf("Check(%q): %v, want cycle at %d (%s)", text, err, at, what)
	}
	if len(list) != 0 {
		t.Errorf("Check(%q) = %s beside %v", text, show(list), err)
	}
}

// The chapter's example, which is the document's too.
func TestExample(t *testing.T) {
	wantStrata(t, "p(X) :- q(X), not r(X). r(X) :- r(X).", "q[], r*[1], p[0]")
}

// wantLeans fails unless Leans of the only rule of the text returns these.
func wantLeans(t *testing.T, text string, preds []string, strict []bool) {
	t.Helper()
	gotPreds, gotStrict := strata.Leans(program(t, text).Rules[0])
	if !slices.Equal(gotPreds, preds) || !slices.Equal(gotStrict, strict) {
		t.Errorf("Leans(%q) = %v, %v, want %v, %v", text, gotPreds, gotStrict, preds, strict)
	}
}

// P18.1: a head depends on the predicates of the body's atoms, in their order,
// and strictly on those of the negative ones.
func TestLeans(t *testing.T) {
	wantLeans(t, "p(1).", nil, nil)
	wantLeans(t, "p(X) :- q(X).", []string{"q"}, []bool{false})
	wantLeans(t, "p(X) :- not z(X), q(X), not a(X), b(X).", []string{"z", "q", "a", "b"}, []bool{true, false, true, false})
	wantLeans(t, "p(X) :- p(X), not p(X).", []string{"p", "p"}, []bool{false, true})
}

// P18.1: predicates are returned as often as they occur.
func TestLeansRepeats(t *testing.T) {
	wantLeans(t, "p(X) :- q(X), r(X), q(X), not q(1), q(X).", []string{"q", "r", "q", "q", "q"}, []bool{false, false, false, true, false})
}

// P18.1: comparisons and Lets are no dependencies.
func TestLeansOnAtomsOnly(t *testing.T) {
	wantLeans(t, "p(X) :- X := 1, X < 2.", nil, nil)
	wantLeans(t, "p(Y) :- X < 2, q(X), Y := X + 1, not r(Y), Y != 3.", []string{"q", "r"}, []bool{false, true})
	wantLeans(t, "p(count<Y>) :- X < 2, q(X), Y := X + 1.", []string{"q"}, []bool{true})
}

// P18.1: with an aggregate in the head, all dependencies are strict.
func TestLeansOfAggregates(t *testing.T) {
	for _, word := range []string{"count", "sum", "min", "max"} {
		wantLeans(t, "p(X,"+word+"<Y>) :- q(X,Y), not r(X), q(Y,X).", []string{"q", "r", "q"}, []bool{true, true, true})
	}
}

// P18.1: Strict of a part: a negative atom, or an atom of a rule whose head has
// an aggregate; of a part that is not an atom it is false.
func TestStrict(t *testing.T) {
	for agg := group.None; agg <= group.Max; agg++ {
		r := syntax.Rule{Head: syntax.Atom{Pred: "p"}, Agg: agg}
		has := agg != group.None
		want := map[syntax.Form]bool{syntax.Pos: has, syntax.Neg: true, syntax.Cmp: false, syntax.Let: false, -1: false, 4: false}
		for form, strict := range want {
			part := syntax.Part{Form: form, Atom: syntax.Atom{Pred: "q"}, Name: "X"}
			if got := strata.Strict(r, part); got != strict {
				t.Errorf("Strict of form %d with aggregate %d is %v", form, agg, got)
			}
		}
	}
}

// P18.2: a program without rules has no strata; declarations make none.
func TestNoRules(t *testing.T) {
	wantStrata(t, "", "")
	wantStrata(t, "@min p. @max q.", "")
	if list, err := strata.Check(nil); len(list) != 0 || err != nil {
		t.Errorf("Check(nil) = %v, %v", list, err)
	}
}

// P18.2: the nodes are the predicates of heads and bodies, in byte order where
// they do not depend on each other.
func TestByteOrder(t *testing.T) {
	wantStrata(t, "b(1). a(1). c(1). b(2).", "a[1], b[0 3], c[2]")
	wantStrata(t, "p10(1). p9(1). p_(1). pA(1). pa(1). p(1).", "p[5], p10[0], p9[1], pA[3], p_[2], pa[4]")
	wantStrata(t, "a(X) :- z(X), y(X). m(1).", "m[1], y[], z[], a[0]")
}

// P18.2: a stratum comes after those that it depends on, positively or negatively
// or through an aggregate, whatever the order of the rules is.
func TestOrder(t *testing.T) {
	wantStrata(t, "a(X) :- b(X). b(X) :- c(X). c(1).", "c[2], b[1], a[0]")
	wantStrata(t, "c(1). b(X) :- c(X). a(X) :- b(X).", "c[0], b[1], a[2]")
	wantStrata(t, "a(1) :- not b(1). b(1) :- not c(1).", "c[], b[1], a[0]")
	wantStrata(t, "a(count<X>) :- b(X). b(sum<X>) :- c(X).", "c[], b[1], a[0]")
	// Not all of what b depends on is next to it in byte order.
	wantStrata(t, "b(X) :- d(X). c(1). e(1). a(1). d(1).", "a[3], c[1], d[4], b[0], e[2]")
}

// P18.2: predicates that depend on each other are one stratum, in byte order, with
// the rules of all of them.
func TestComponents(t *testing.T) {
	wantStrata(t, "q(X) :- p(X). p(X) :- q(X).", "p q*[0 1]")
	wantStrata(t, "e(1). b(X) :- c(X). c(X) :- a(X), e(X). a(X) :- b(X). d(X) :- b(X), not e(X). b(2).", "e[0], a b c*[1 2 3 5], d[4]")
	wantStrata(t, "z(X) :- a(X). a(X) :- z(X), m(X). m(X) :- n(X). n(X) :- m(X).", "m n*[2 3], a z*[0 1]")
}

// P18.2: a single predicate loops if it depends on itself.
func TestLoops(t *testing.T) {
	wantStrata(t, "p(X) :- p(X).", "p*[0]")
	wantStrata(t, "p(1). p(X) :- q(X). q(2).", "q[2], p[0 1]")
	wantStrata(t, "e(1,2). t(X,Y) :- e(X,Y). t(X,Z) :- t(X,Y), e(Y,Z).", "e[0], t*[1 2]")
}

// P18.2: predicates without a rule of their own are strata without rules.
func TestPredicatesWithoutRules(t *testing.T) {
	wantStrata(t, "p(X) :- q(X), not r(X), q(X).", "q[], r[], p[0]")
}

// P18.2: strict dependencies on earlier strata are no fault.
func TestStrictOnOthers(t *testing.T) {
	wantStrata(t, "p(X) :- p(X), not q(X). q(count<X>) :- r(X). r(X) :- r(X).", "r*[2], q[1], p*[0]")
}

// P18.2: a negative atom of the head's own component is a fault.
func TestNegativeCycles(t *testing.T) {
	wantCycle(t, "p(1) :- not p(1).", 0, "p")
	wantCycle(t, "q(1). p(X) :- q(X), not p(X).", 1, "p")
	wantCycle(t, "a(X) :- b(X). b(X) :- c(X), not a(X).", 1, "a")
	wantCycle(t, "p(X) :- e(X), not q(X). q(X) :- e(X), not p(X).", 0, "q")
	// The component closes only by way of a later rule.
	wantCycle(t, "a(X) :- e(X), not b(X). b(X) :- c(X). c(X) :- d(X). d(X) :- a(X).", 0, "b")
}

// P18.2: so is an aggregate over a predicate of the head's own component.
func TestAggregateCycles(t *testing.T) {
	for _, word := range []string{"count", "sum", "min", "max"} {
		wantCycle(t, "p("+word+"<X>) :- p(X).", 0, "p")
		wantCycle(t, "p(X) :- q(X). q("+word+"<X>) :- e(X), p(X).", 1, "p")
	}
}

// P18.2: a declared cost does not make a cycle, nor excuse one.
func TestCyclesWithDeclarations(t *testing.T) {
	wantStrata(t, "@min p. p(X,C) :- p(X,C).", "p*[0]")
	wantCycle(t, "@min p. p(X,C) :- e(X,C), not p(X,C).", 0, "p")
}

// P18.2: the fault is at the first such rule, with the first such predicate of
// its body.
func TestFirstCycle(t *testing.T) {
	wantCycle(t, "z(1) :- not z(1). a(1) :- not a(1).", 0, "z")
	wantCycle(t, "e(1). a(X) :- b(X), not e(X). b(X) :- a(X), not b(X). a(X) :- b(X), not a(X).", 2, "b")
	// Of the body, e is of another component, and the dependency on c is not strict.
	wantCycle(t, "a(X) :- not e(X), c(X), not b(X), not a(X). b(X) :- a(X). c(X) :- a(X).", 0, "b")
	wantCycle(t, "a(X,count<Y>) :- e(X), c(X,Y), b(X,Y). b(X,Y) :- a(X,Y). c(X,Y) :- a(X,Y).", 0, "c")
}

// path returns whether the predicate from depends on to by one rule or more.
func path(rules []syntax.Rule, from, to string) bool {
	seen := map[string]bool{}
	work := []string{from}
	for len(work) > 0 {
		pred := work[0]
		work = work[1:]
		for _, r := range rules {
			for _, part := range r.Body {
				if r.Head.Pred != pred || part.Form > syntax.Neg || seen[part.Atom.Pred] {
					continue
				}
				seen[part.Atom.Pred] = true
				work = append(work, part.Atom.Pred)
			}
		}
	}
	return seen[to]
}

// definedFault returns the rule and the predicate of the fault that the document
// defines, or -1.
func definedFault(rules []syntax.Rule) (int, string) {
	for number, r := range rules {
		for _, part := range r.Body {
			isAtom := part.Form == syntax.Pos || part.Form == syntax.Neg
			strict := part.Form == syntax.Neg || r.Agg != group.None
			// The head depends on the part's predicate, so that they share a
			// component if that depends on the head.
			if isAtom && strict && path(rules, part.Atom.Pred, r.Head.Pred) {
				return number, part.Atom.Pred
			}
			if isAtom && strict && part.Atom.Pred == r.Head.Pred {
				return number, part.Atom.Pred
			}
		}
	}
	return -1, ""
}

// checkStrata fails unless the strata are those that the document defines, apart
// from their order: it must only be one in which nothing depends on what follows.
func checkStrata(t *testing.T, rules []syntax.Rule, list []strata.Stratum) {
	t.Helper()
	home := map[string]int{}
	for at, s := range list {
		for _, pred := range s.Preds {
			home[pred] = at
		}
		var own []int
		for number, r := range rules {
			if slices.Contains(s.Preds, r.Head.Pred) {
				own = append(own, number)
			}
		}
		loops := path(rules, s.Preds[0], s.Preds[0])
		if !slices.Equal(own, s.Rules) || !slices.IsSorted(s.Preds) || loops != s.Loops {
			t.Errorf("%v: the stratum %v loops: %v, and has the rules %v", rules, s, loops, own)
		}
	}
	for a := range home {
		for b := range home {
			there, back := path(rules, a, b), path(rules, b, a)
			if a != b && (there && back) != (home[a] == home[b]) || there && home[b] > home[a] {
				t.Errorf("%v: %s is in stratum %d, and %s in stratum %d", rules, a, home[a], b, home[b])
			}
		}
	}
}

// randomRules returns up to 7 rules for the predicates a to f.
func randomRules(r *rand.Rand) []syntax.Rule {
	pick := func() syntax.Atom { return syntax.Atom{Pred: string(rune('a' + r.Intn(6)))} }
	rules := make([]syntax.Rule, r.Intn(8))
	for i := range rules {
		rules[i].Head = pick()
		if r.Intn(8) == 0 {
			rules[i].Agg = group.Agg(1 + r.Intn(4))
		}
		for range r.Intn(4) {
			form := []syntax.Form{syntax.Pos, syntax.Pos, syntax.Pos, syntax.Neg, syntax.Cmp, syntax.Let}[r.Intn(6)]
			rules[i].Body = append(rules[i].Body, syntax.Part{Form: form, Atom: pick()})
		}
	}
	return rules
}

// P18.2: random programs have the strata, or the fault, of the definition.
func TestRandomPrograms(t *testing.T) {
	r := rand.New(rand.NewSource(1))
	faults := 0
	const runs = 4000
	for range runs {
		rules := randomRules(r)
		list, err := strata.Check(&syntax.Program{Rules: rules})
		at, what := definedFault(rules)
		var f *fault.Fault
		switch {
		case at < 0 && err == nil:
			checkStrata(t, rules, list)
		case at < 0 || !errors.As(err, &f) || *f != fault.Fault{Tag: fault.Cycle, At: at, What: what}:
			t.Errorf("%v: %v, want a fault at %d (%s)", rules, err, at, what)
		default:
			faults++
		}
	}
	if faults < runs/5 || faults > runs*4/5 {
		t.Errorf("%d of %d programs are faulty", faults, runs)
	}
}

// Rule 3: the program is not modified, and results do not share memory with each
// other.
func TestSeparateResults(t *testing.T) {
	const text = "b(X) :- a(X), e(X). a(X) :- b(X). c(X) :- a(X), not e(X)."
	p := program(t, text)
	first, _ := strata.Check(p)
	for i := range first {
		_ = append(first[i].Preds, "x")
		_ = append(first[i].Rules, 9)
		for j := range first[i].Preds {
			first[i].Preds[j] += "y"
		}
		for j := range first[i].Rules {
			first[i].Rules[j] += 10
		}
	}
	if got, want := show(first), "ey[], ay by*[10 11], cy[12]"; got != want {
		t.Errorf("the strata are now %s, want %s", got, want)
	}
	preds, strict := strata.Leans(p.Rules[2])
	preds[0], strict[0] = "x", true
	if !reflect.DeepEqual(p, program(t, text)) {
		t.Error("the program was modified")
	}
	wantStrata(t, text, "e[], a b*[0 1], c[2]")
}

// Rule 4: the result is the same at each call.
func TestSameResultAgain(t *testing.T) {
	const text = "h(X) :- g(X). g(X) :- f(X), h(X). f(X) :- e(X). d(X) :- c(X), not b(X). b(X) :- a(X). a(X) :- b(X)."
	for range 50 {
		wantStrata(t, text, "a b*[4 5], c[], d[3], e[], f[2], g h*[0 1]")
	}
}

// Rule 1: rules without any of what parse gives them, and names that it does
// not let through, do no harm.
func TestOddPrograms(t *testing.T) {
	odd := &syntax.Program{Rules: []syntax.Rule{
		{},
		{Head: syntax.Atom{Pred: "\xff"}, Agg: group.Agg(-3), Body: []syntax.Part{{Form: 9, Atom: syntax.Atom{Pred: "no"}}, {}}},
	}}
	list, err := strata.Check(odd)
	if err != nil || show(list) != "[0], \xff[1]" {
		t.Errorf("Check = %q, %v", show(list), err)
	}
}

// P18.2: a path of dependencies of many predicates is no matter.
func TestManyPredicates(t *testing.T) {
	const n = 20000
	var rules []syntax.Rule
	for i := range n {
		head, body := fmt.Sprintf("p%06d", i), fmt.Sprintf("p%06d", i+1)
		rules = append(rules, syntax.Rule{Head: syntax.Atom{Pred: head}, Body: []syntax.Part{{Atom: syntax.Atom{Pred: body}}}})
	}
	list, err := strata.Check(&syntax.Program{Rules: rules})
	if err != nil || len(list) != n+1 || list[0].Preds[0] != "p020000" || list[n].Preds[0] != "p000000" {
		t.Errorf("%d strata, %v", len(list), err)
	}
}
