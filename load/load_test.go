package load_test

import (
	"errors"
	"math/rand"
	"reflect"
	"slices"
	"strconv"
	"strings"
	"testing"

	"ergo/api"
	"ergo/fault"
	"ergo/load"
	"ergo/parse"
	"ergo/safe"
	"ergo/sig"
	"ergo/strata"
	"ergo/syntax"
)

// program returns the program that the text denotes.
func program(t *testing.T, text string) *syntax.Program {
	t.Helper()
	p, err := parse.Program(text)
	if err != nil {
		t.Fatalf("Program(%q): %v", text, err)
	}
	return p
}

// loaded returns the result of Text, which must have no error.
func loaded(t *testing.T, text string) *load.Prog {
	t.Helper()
	p, err := load.Text(text)
	if err != nil || p == nil {
		t.Fatalf("Text(%q) = %v, %v", text, p, err)
	}
	return p
}

// The chapter's example.
func TestExample(t *testing.T) {
	_, err := load.Text("p(X) :- not q(X).")
	if err == nil || err.Error() != "unsafe at 2 (safe): unsafe at 0 (p): unsafe at 0 (X)" {
		t.Errorf("Text: %v", err)
	}
}

// P20.1: Text returns the program, and what each of the layers finds of it.
func TestText(t *testing.T) {
	for _, text := range []string{
		"",
		"e(1,2). e(2,3). t(X,Y) :- e(X,Y). t(X,Z) :- t(X,Y), e(Y,Z).",
		"@min d. d(X,0) :- s(X). d(Y,D) :- d(X,C), e(X,Y,W), W >= 0, D := C + W. n(count<X>) :- X != a, d(X,C), not f(X).",
	} {
		got := loaded(t, text)
		p := program(t, text)
		sigs, _ := sig.Check(p)
		orders, _ := safe.Check(p)
		list, _ := strata.Check(p)
		if !reflect.DeepEqual(got.Program, p) || !reflect.DeepEqual(got.Sigs, sigs) || !reflect.DeepEqual(got.Orders, orders) || !reflect.DeepEqual(got.Strata, list) {
			t.Errorf("Text(%q) = %v", text, got)
		}
	}
}

// P20.1: Check does the same for a program, which it does not modify.
func TestCheck(t *testing.T) {
	const text = "@max m. m(X,C) :- s(X,C). m(Y,D) :- m(X,C), e(X,Y), D := C - 1. n(sum<C>) :- C > 2, m(X,C)."
	p := program(t, text)
	got, err := load.Check(p)
	if err != nil || got.Program == nil || !reflect.DeepEqual(got, loaded(t, text)) {
		t.Errorf("Check(%q) = %v, %v", text, got, err)
	}
	if !reflect.DeepEqual(p, program(t, text)) {
		t.Errorf("the program is now %v", p)
	}
}

// layers are the names of the steps, by their positions.
var layers = []string{"parse", "sig", "safe", "strata", "admit"}

// wantFault fails unless err is a fault of that step, with that tag, which wraps
// one at the position inner, and there are so many faults in all.
func wantFault(t *testing.T, text string, p *load.Prog, err error, tag fault.Tag, step, inner, depth int) {
	t.Helper()
	var f *fault.Fault
	if p != nil || !errors.As(err, &f) || f.Tag != tag || f.At != step || f.What != layers[step] || fault.At(f.Err) != inner || fault.Depth(err) != depth || !errors.Is(err, tag) {
		t.Errorf("%q: %v, %v, want %v at %d (%s), of one at %d, in all %d", text, p, err, tag, step, layers[step], inner, depth)
	}
}

// P20.1: the fault of each step is wrapped once, with the position and the name
// of the step.
func TestFaults(t *testing.T) {
	long := strings.Repeat(" ", api.MaxText+1)
	var many strings.Builder
	for n := range api.MaxPreds + 1 {
		many.WriteString("p" + strconv.Itoa(n) + "(1). ")
	}
	for _, c := range []struct {
		text  string
		tag   fault.Tag
		step  int
		inner int
		depth int
	}{
		{"p(", fault.Syntax, 0, 2, 2},
		{"p(1). $", fault.Syntax, 0, 6, 2},
		{long, fault.Many, 0, 0, 2},
		{"p(X) :- X := " + strings.Repeat("(", 21) + "1" + strings.Repeat(")", 21) + ".", fault.Deep, 0, 33, 2},
		{"p(1). p(1,2).", fault.Arity, 1, 1, 2},
		{many.String(), fault.Many, 1, 60, 2},
		{"p(1). p(2). p(a).", fault.Type, 1, 2, 2},
		{"@min p. p(a).", fault.Type, 1, 0, 2},
		{"p(1). q(X) :- p(Y).", fault.Unsafe, 2, 1, 3},
		{"p(1). q(X) :- p(X), not q(X).", fault.Cycle, 3, 1, 2},
		{"p(1). q(count<X>) :- p(X), q(X).", fault.Cycle, 3, 1, 2},
		{"p(1). @min p. @max z.", fault.Admit, 4, 1, 2},
		{"@min p. s(1). p(C) :- p(C), p(C).", fault.Admit, 4, 1, 2},
	} {
		p, err := load.Text(c.text)
		wantFault(t, c.text, p, err, c.tag, c.step, c.inner, c.depth)
		if c.step == 0 {
			continue
		}
		p, err = load.Check(program(t, c.text))
		wantFault(t, c.text, p, err, c.tag, c.step, c.inner, c.depth)
	}
}

// P20.1, P1: of several faults, the one of the first step is returned.
func TestFirstFault(t *testing.T) {
	admitFault := "@min z. "
	strataFault := admitFault + "c(X) :- q(X), not c(X). "
	safeFault := strataFault + "u(X) :- q(Y). "
	typeFault := safeFault + "t(1). t(a). "
	arityFault := typeFault + "v(1). v(1,2). "
	for at, c := range []struct {
		text  string
		tag   fault.Tag
		inner int
		depth int
	}{
		{arityFault + "p(", fault.Syntax, len(arityFault) + 2, 2},
		{arityFault, fault.Arity, 5, 2},
		{typeFault, fault.Type, 3, 2},
		{safeFault, fault.Unsafe, 1, 3},
		{strataFault, fault.Cycle, 0, 2},
		{admitFault, fault.Admit, 0, 2},
	} {
		p, err := load.Text(c.text)
		wantFault(t, c.text, p, err, c.tag, []int{0, 1, 1, 2, 3, 4}[at], c.inner, c.depth)
	}
}

// wantKinds fails unless the predicates of the program have these kinds.
func wantKinds(t *testing.T, text string, want map[string]load.Kind) {
	t.Helper()
	p := loaded(t, text)
	for pred, kind := range want {
		if got := p.Kind(pred); got != kind {
			t.Errorf("%q: Kind(%q) = %d, want %d", text, pred, got, kind)
		}
	}
}

// P20.2: the kinds.
func TestKind(t *testing.T) {
	if load.Plain != 0 || load.Made != 1 || load.Least != 2 || load.Greatest != 3 {
		t.Error("the kinds have other numbers")
	}
	wantKinds(t, "@min a. @max b. a(X,1) :- e(X). b(X,1) :- e(X). c(count<X>) :- a(X,C). d(C) :- c(C), not f(C). e(1).", map[string]load.Kind{
		"a": load.Least, "b": load.Greatest, "c": load.Made, "d": load.Plain, "e": load.Plain, "f": load.Plain, "g": load.Plain, "": load.Plain,
	})
}

// P20.2: a predicate is Made by any aggregate, in any of its rules.
func TestMade(t *testing.T) {
	for _, word := range []string{"count", "sum", "min", "max"} {
		wantKinds(t, "p("+word+"<X>) :- q(X).", map[string]load.Kind{"p": load.Made, "q": load.Plain})
		wantKinds(t, "p(1). p("+word+"<X>) :- q(X). p(2).", map[string]load.Kind{"p": load.Made})
	}
}

// P20.2: a declared predicate without a rule of its own is Least or Greatest too.
func TestDeclaredWithoutRules(t *testing.T) {
	wantKinds(t, "@max a. @min b. p(count<X>) :- a(X), not b(X).", map[string]load.Kind{"a": load.Greatest, "b": load.Least, "p": load.Made})
}

// P20.2: the number of positions of the predicates of heads and bodies.
func TestWidth(t *testing.T) {
	p := loaded(t, "@min d. p(X,Y) :- q(X,Y,Z), not r(1), d(a,1,2,3). s(1,2,3,4,5,6).")
	for pred, want := range map[string]int{"p": 2, "q": 3, "r": 1, "d": 4, "s": 6} {
		if n, ok := p.Width(pred); n != want || !ok {
			t.Errorf("Width(%q) = %d, %v", pred, n, ok)
		}
	}
	for _, pred := range []string{"a", "X", "", "pp", "P"} {
		if n, ok := p.Width(pred); n != 0 || ok {
			t.Errorf("Width(%q) = %d, %v", pred, n, ok)
		}
	}
}

// wantCone fails unless the program's Cone of preds is the words of want.
func wantCone(t *testing.T, text, want string, preds ...string) {
	t.Helper()
	if got := loaded(t, text).Cone(preds...); !slices.Equal(got, strings.Fields(want)) {
		t.Errorf("%q: Cone(%q) = %q, want %s", text, preds, got, want)
	}
}

// P20.2: what a predicate depends on directly: positively, negatively, and
// through an aggregate, in any of its rules.
func TestConeOfOneLevel(t *testing.T) {
	const text = "p(X) :- z(X), not a(X), 1 < 2. p(2). p(X) :- m(X). n(sum<X>) :- z(X). other(X) :- p(X)."
	wantCone(t, text, "a m p z", "p")
	wantCone(t, text, "n z", "n")
	wantCone(t, text, "z", "z")
	wantCone(t, text, "a m other p z", "other")
}

// P20.2: and indirectly, also in circles, and not what depends on it.
func TestConeOfManyLevels(t *testing.T) {
	const text = "a(X) :- b(X). b(X) :- c(X), not d(X). c(count<X>) :- e(X). e(X) :- f(X). f(X) :- g(X), e(X). g(X) :- h(X). x(X) :- a(X), y(X)."
	wantCone(t, text, "a b c d e f g h", "a")
	wantCone(t, text, "c e f g h", "c")
	wantCone(t, text, "e f g h", "f")
	wantCone(t, text, "a b c d e f g h x y", "x")
	wantCone(t, "p(X) :- p(X).", "p", "p")
	wantCone(t, "p(X) :- q(X). q(X) :- r(X). r(X) :- p(X). s(X) :- q(X).", "p q r", "q")
}

// P20.2: several predicates, in any order and given twice, and none.
func TestConeOfSeveral(t *testing.T) {
	const text = "a(X) :- b(X). c(X) :- d(X), b(X). e(1)."
	wantCone(t, text, "")
	wantCone(t, text, "a b c d", "c", "a")
	wantCone(t, text, "a b c d", "a", "c", "a", "b", "c")
	wantCone(t, text, "a b c d e", "e", "d", "c", "b", "a")
}

// P20.2: predicates that do not exist are left out.
func TestConeOfUnknown(t *testing.T) {
	const text = "a(X) :- b(X), X != c."
	wantCone(t, text, "", "c")
	wantCone(t, text, "", "", "x", "A")
	wantCone(t, text, "a b", "x", "a", "c", "z")
	wantCone(t, "", "", "a")
}

// P20.2: the names are in ascending byte order.
func TestConeOrder(t *testing.T) {
	wantCone(t, "z(X) :- p10(X), p9(X), pa(X), pA(X), p_(X), p(X).", "p p10 p9 pA p_ pa z", "z")
}

// randomProgram returns rules for the predicates a to h.
func randomProgram(r *rand.Rand) string {
	text := ""
	name := func() string { return string(rune('a' + r.Intn(8))) }
	for range 1 + r.Intn(7) {
		text += name() + "(X) :- " + name() + "(X)"
		if r.Intn(3) == 0 {
			text += ", " + name() + "(X)"
		}
		text += ". "
	}
	return text
}

// P20.2: the Cones of random programs are closed, and have nothing superfluous.
func TestRandomCones(t *testing.T) {
	r := rand.New(rand.NewSource(1))
	for range 2000 {
		text := randomProgram(r)
		p := loaded(t, text)
		needs := map[string][]string{}
		for _, rule := range p.Program.Rules {
			preds, _ := strata.Leans(rule)
			needs[rule.Head.Pred] = append(needs[rule.Head.Pred], preds...)
		}
		for _, pred := range p.Sigs.Preds() {
			reached := map[string]int{pred: 1}
			for range p.Sigs.Preds() {
				for _, head := range p.Sigs.Preds() {
					for _, need := range needs[head] {
						reached[need] = max(reached[need], reached[head])
					}
				}
			}
			var want []string
			for _, other := range p.Sigs.Preds() {
				if reached[other] > 0 {
					want = append(want, other)
				}
			}
			wantCone(t, text, strings.Join(want, " "), pred)
		}
	}
}

// Rule 3: results share no memory, and arguments are not modified.
func TestSeparateResults(t *testing.T) {
	p := loaded(t, "a(X) :- b(X), c(X). b(X) :- d(X).")
	preds := []string{"b", "a", "b", "x"}
	first := p.Cone(preds...)
	for i := range first {
		first[i] += "!"
	}
	_ = append(first[:1], "q", "q", "q")
	if got := p.Cone(preds...); strings.Join(got, " ") != "a b c d" || strings.Join(preds, " ") != "b a b x" {
		t.Errorf("Cone(%q) = %q", preds, got)
	}
}

// Rule 4: the result is the same at each call.
func TestSameResultAgain(t *testing.T) {
	const text = "@min d. d(X,C) :- s(X,C). d(Y,C) :- d(X,C), e(X,Y). n(count<X>) :- d(X,C), not f(X). m(X) :- n(X), g(X)."
	first := loaded(t, text)
	for range 50 {
		again := loaded(t, text)
		if !reflect.DeepEqual(first, again) || !slices.Equal(first.Cone("m"), again.Cone("m")) {
			t.Fatalf("Text(%q) = %v, and then %v", text, first, again)
		}
	}
}

// Rule 1: nil, and a Prog that the package did not make, do no harm.
func TestOddArguments(t *testing.T) {
	p, err := load.Check(nil)
	if err != nil || p == nil || len(p.Cone("a")) != 0 {
		t.Errorf("Check(nil) = %v, %v", p, err)
	}
	var zero load.Prog
	if n, ok := zero.Width("a"); n != 0 || ok || zero.Kind("a") != load.Plain || len(zero.Cone("a", "b")) != 0 {
		t.Error("a Prog without a program has predicates")
	}
}
