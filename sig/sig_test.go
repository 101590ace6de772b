package sig_test

import (
	"reflect"
	"slices"
	"strconv"
	"strings"
	"testing"

	"ergo/fault"
	"ergo/parse"
	"ergo/sig"
	"ergo/syntax"
)

// program returns the program that the text denotes.
func program(t *testing.T, text string) *syntax.Program {
	t.Helper()
	p, err := parse.Program(text)
	if err != nil {
		t.Fatalf("Program(%q): %v", text, err)
	}
	return p
}

// check returns what Check returns for the text, which must be no fault.
func check(t *testing.T, text string) *sig.Sigs {
	t.Helper()
	s, err := sig.Check(program(t, text))
	if s == nil || err != nil {
		t.Fatalf("Check(%q) = %v, %v", text, s, err)
	}
	return s
}

// word returns the name of a type.
func word(x sig.Type) string {
	return []string{"any", "int", "sym"}[x]
}

// describe returns the predicates with their types, such as "p(int,any) q(sym)".
func describe(s *sig.Sigs) string {
	var list []string
	for _, pred := range s.Preds() {
		types, _ := s.Types(pred)
		var words []string
		for _, x := range types {
			words = append(words, word(x))
		}
		list = append(list, pred+"("+strings.Join(words, ",")+")")
	}
	return strings.Join(list, " ")
}

// wantTypes fails unless these are the predicates of the text and their types.
func wantTypes(t *testing.T, text, want string) {
	t.Helper()
	if got := describe(check(t, text)); got != want {
		t.Errorf("Check(%q): %s, want %s", text, got, want)
	}
}

// wantVars fails unless these are the types of the rule's variables, such as
// "X:int Y:any".
func wantVars(t *testing.T, text string, rule int, want string) {
	t.Helper()
	s := check(t, text)
	for _, pair := range strings.Fields(want) {
		name, kind, _ := strings.Cut(pair, ":")
		if got := word(s.Var(rule, name)); got != kind {
			t.Errorf("Check(%q): Var(%d, %q) is %s, want %s", text, rule, name, got, kind)
		}
	}
}

// wantFault fails unless Check returns a fault of that tag at that rule.
func wantFault(t *testing.T, tag fault.Tag, at int, text string) {
	t.Helper()
	s, err := sig.Check(program(t, text))
	if s != nil || fault.Of(err) != tag || fault.At(err) != at || fault.Depth(err) != 1 {
		t.Errorf("Check(%q) = %v, %v, want %v at %d", text, s, err, tag, at)
	}
}

// facts returns facts of the predicates p0, p1 and so on.
func facts(count int) string {
	var text strings.Builder
	for i := range count {
		text.WriteString("p" + strconv.Itoa(i) + "(1). ")
	}
	return text.String()
}

// The types are numbered in order.
func TestNumbers(t *testing.T) {
	if sig.Any != 0 || sig.Int != 1 || sig.Sym != 2 {
		t.Error("the types are not Any, Int, Sym")
	}
}

// The chapter's example.
func TestExample(t *testing.T) {
	const text = "p(X) :- q(X,Y), Y < 3. q(a,1)."
	wantTypes(t, text, "p(sym) q(sym,int)")
	wantVars(t, text, 0, "X:sym Y:int")
}

// P15.1: a predicate has one number of terms, wherever it occurs.
func TestArity(t *testing.T) {
	wantFault(t, fault.Arity, 1, "p(1). p(1,2).")
	wantFault(t, fault.Arity, 1, "p(1,2). p(1).")
	wantFault(t, fault.Arity, 0, "p(X) :- p(X,X).")
	wantFault(t, fault.Arity, 0, "p(X) :- q(X), not p(X,X).")
	wantFault(t, fault.Arity, 0, "p(X) :- q(X), q(X,X).")
	wantFault(t, fault.Arity, 1, "p(X) :- q(X). r(X) :- s(X), not q(X,1).")
	wantFault(t, fault.Arity, 2, "p(1). q(1). p(X,count<Y>) :- q(X), q(Y). p(1,2,3).")
	wantTypes(t, "p(1,2). q(1). p(X,Y) :- q(X), not p(Y,X), q(Y).", "p(int,int) q(int)")
	wantTypes(t, "p(1,2,3,4,5,6).", "p(int,int,int,int,int,int)")
}

// P15.1: there are at most MaxPreds predicates in rules.
func TestManyPreds(t *testing.T) {
	if got := len(check(t, facts(60)).Preds()); got != 60 {
		t.Errorf("%d predicates", got)
	}
	wantFault(t, fault.Many, 60, facts(61))
	wantFault(t, fault.Many, 61, facts(60)+"p7(2). p60(1).")
	wantFault(t, fault.Many, 60, facts(60)+"p0(X) :- p1(X), q(X).")
	wantFault(t, fault.Many, 60, facts(60)+"p0(X) :- p1(X), not q(X).")
	wantFault(t, fault.Many, 59, facts(59)+"a(X) :- p1(X), b(X).")
	// Those that have occurred, and those that are only declared, don't count.
	check(t, facts(60)+"p0(X) :- p1(X), not p2(X), X < 2. p3(2).")
	check(t, "@min q. @max r. @min p0. "+facts(60))
}

// P15.1: the first fault of the arities is the first one in the text.
func TestFirstArityFault(t *testing.T) {
	wantFault(t, fault.Arity, 1, "p(1). p(1,2). p(1,2,3).")
	wantFault(t, fault.Arity, 60, facts(60)+"p0(X) :- p1(X,X), q(X).")
	wantFault(t, fault.Many, 60, facts(60)+"p0(X) :- q(X), p1(X,X).")
	wantFault(t, fault.Many, 60, facts(60)+"q(X) :- p1(X,X).")
	wantFault(t, fault.Arity, 60, facts(60)+"p0(1,2). q(1).")
	// A new predicate beyond the limit has not occurred, so that it has no arity.
	wantFault(t, fault.Many, 60, facts(60)+"q(1). q(1,2).")
}

// P15.1: all arities are checked before any type.
func TestArityBeforeType(t *testing.T) {
	wantFault(t, fault.Arity, 2, "p(1). p(a). p(1,2).")
	// With p, p58 is the last of 60 predicates.
	wantFault(t, fault.Many, 61, "p(1). p(a). "+facts(61))
}

// P15.2: numbers and symbols give positions their types.
func TestConstants(t *testing.T) {
	wantTypes(t, `p(1,a,-1,"A b").`, "p(int,sym,int,sym)")
	wantTypes(t, "p(X) :- q(X,1), not r(a,X).", "p(any) q(any,int) r(sym,any)")
	wantTypes(t, `p("1").`, "p(sym)")
	wantFault(t, fault.Type, 1, "p(1). p(a).")
	wantFault(t, fault.Type, 1, "p(a). p(1).")
	wantFault(t, fault.Type, 2, "p(1,a). p(2,b). p(c,3).")
	wantFault(t, fault.Type, 0, "p(1) :- p(a).")
	wantFault(t, fault.Type, 0, "p(1) :- not p(a).")
	wantFault(t, fault.Type, 0, "p(X) :- q(X,1), not q(X,a).")
}

// P15.2: a variable has one type in its rule.
func TestVariables(t *testing.T) {
	wantTypes(t, "p(X,Y) :- q(Y,X). q(1,a).", "p(sym,int) q(int,sym)")
	wantTypes(t, "p(X) :- q(Y), not r(X,Y). r(a,1).", "p(sym) q(int) r(sym,int)")
	wantTypes(t, "p(X,X). p(1,Y).", "p(int,int)")
	wantTypes(t, "p(X,Y) :- p(Y,X). p(1,Y).", "p(int,int)")
	wantFault(t, fault.Type, 1, "p(X,X). p(1,a).")
	wantFault(t, fault.Type, 1, "p(X,Y) :- p(Y,X). p(1,a).")
	wantFault(t, fault.Type, 2, "q(1). r(a). p(X) :- q(X), r(X).")
	wantFault(t, fault.Type, 2, "q(1). r(a). p(X) :- q(X), not r(X).")
	// Another rule's variable of the same name is another one.
	wantTypes(t, "p(X) :- q(X). r(X) :- s(X). q(1). s(a).", "p(int) q(int) r(sym) s(sym)")
	wantVars(t, "p(X) :- q(X). r(X) :- s(X). q(1). s(a).", 0, "X:int")
	wantVars(t, "p(X) :- q(X). r(X) :- s(X). q(1). s(a).", 1, "X:sym")
}

// P15.2: = and != require that both sides have the same type.
func TestEqualSides(t *testing.T) {
	for _, sign := range []string{" = ", " != "} {
		wantTypes(t, "p(X,Y) :- q(X,Y), X"+sign+"Y.", "p(any,any) q(any,any)")
		wantTypes(t, "p(X) :- q(X,Y), X"+sign+"Y. q(Z,1).", "p(int) q(int,int)")
		wantTypes(t, "p(X) :- q(X,Y), X"+sign+"Y. q(a,Z).", "p(sym) q(sym,sym)")
		wantTypes(t, "p(X) :- q(X), X"+sign+"a.", "p(sym) q(sym)")
		wantTypes(t, "p(X) :- q(X), 1"+sign+"X.", "p(int) q(int)")
		wantTypes(t, "p(a) :- 1"+sign+"2, a"+sign+"b.", "p(sym)")
		wantTypes(t, "p(X) :- q(X), X"+sign+"X.", "p(any) q(any)")
		wantFault(t, fault.Type, 0, "p(X) :- q(X), 1"+sign+"a.")
		wantFault(t, fault.Type, 0, "p(X) :- q(X), a"+sign+"1.")
		wantFault(t, fault.Type, 1, "q(a). p(X) :- q(X), X"+sign+"1.")
		wantFault(t, fault.Type, 1, "q(a,1). p(X) :- q(X,Y), X"+sign+"Y.")
	}
}

// P15.2: < <= > >= require that both sides are Int.
func TestOrderedSides(t *testing.T) {
	for _, sign := range []string{" < ", " <= ", " > ", " >= "} {
		wantTypes(t, "p(X,Y) :- q(X,Y), X"+sign+"Y.", "p(int,int) q(int,int)")
		wantTypes(t, "p(X,Y) :- q(X,Y), X"+sign+"3.", "p(int,any) q(int,any)")
		wantTypes(t, "p(X,Y) :- q(X,Y), 3"+sign+"Y.", "p(any,int) q(any,int)")
		wantTypes(t, "p(a) :- 1"+sign+"2.", "p(sym)")
		wantFault(t, fault.Type, 0, "p(a) :- a"+sign+"b.")
		wantFault(t, fault.Type, 0, "p(X) :- q(X), X"+sign+"b.")
		wantFault(t, fault.Type, 0, "p(X) :- q(X), b"+sign+"X.")
		wantFault(t, fault.Type, 1, "q(a). p(X) :- q(X), X"+sign+"X.")
	}
}

// P15.2: a Let's variable, and all variables of its expression, are Int.
func TestLets(t *testing.T) {
	wantTypes(t, "p(X,Y) :- q(Z,W), Y := Z, X := W.", "p(int,int) q(int,int)")
	wantTypes(t, "p(X) :- q(A,B,C,D), X := (A + 1) * B - C.", "p(int) q(int,int,int,any)")
	wantVars(t, "p(X) :- q(A,B,C,D), E := (A + 1) * -1 - C.", 0, "A:int B:any C:int D:any E:int X:any")
	wantTypes(t, "p(X) :- X := 1.", "p(int)")
	wantFault(t, fault.Type, 1, "p(a). p(X) :- X := 1.")
	wantFault(t, fault.Type, 1, "q(a). p(X) :- q(Y), X := 2 * (1 - Y).")
	wantFault(t, fault.Type, 0, "p(X) :- X = a, Y := X.")
	wantFault(t, fault.Type, 0, "p(X) :- X = a, X := 1.")
}

// P15.2: an aggregate's position is Int, and so is its variable, except for count.
func TestAggregates(t *testing.T) {
	for _, word := range []string{"sum", "min", "max"} {
		wantTypes(t, "p(X,"+word+"<Y>) :- q(X,Y).", "p(any,int) q(any,int)")
		wantTypes(t, "p("+word+"<X>) :- q(X,Y).", "p(int) q(int,any)")
		wantFault(t, fault.Type, 1, "q(a). p("+word+"<X>) :- q(X).")
		wantFault(t, fault.Type, 1, "p("+word+"<X>) :- q(X). q(a).")
		wantFault(t, fault.Type, 1, "p(a). p("+word+"<X>) :- q(X).")
	}
	wantTypes(t, "p(X,count<Y>) :- q(X,Y).", "p(any,int) q(any,any)")
	wantTypes(t, "p(X,count<Y>) :- q(X,Y). q(1,a).", "p(int,int) q(int,sym)")
	wantTypes(t, "p(X,count<X>) :- q(X). q(a).", "p(sym,int) q(sym)")
	wantTypes(t, "p(X,sum<X>) :- q(X).", "p(int,int) q(int)")
	wantVars(t, "p(X,count<Y>) :- q(X,Y,Z), Z > 1. q(1,a,2).", 0, "X:int Y:sym Z:int")
	wantFault(t, fault.Type, 1, "p(a). p(count<X>) :- q(X).")
	wantFault(t, fault.Type, 1, "p(count<X>) :- q(X). p(a).")
	wantFault(t, fault.Type, 1, "q(a). p(X,sum<X>) :- q(X).")
	// Without <, the words are symbols.
	wantTypes(t, "p(sum,count).", "p(sym,sym)")
}

// P15.2: the cost of a declared predicate is Int, whatever the rules say.
func TestDeclarations(t *testing.T) {
	for _, decl := range []string{"@min p. ", "@max p. ", "@min p. @max p. "} {
		wantTypes(t, decl+"p(X,Y) :- q(X,Y).", "p(any,int) q(any,int)")
		wantTypes(t, "q(X,Y) :- p(Y,X). "+decl, "p(any,int) q(int,any)")
		wantTypes(t, "q(X) :- q(X), not p(X). "+decl, "p(int) q(int)")
		wantFault(t, fault.Type, 1, "p(a,1). p(a,b). "+decl)
		wantFault(t, fault.Type, 0, decl+"p(a).")
		wantFault(t, fault.Type, 0, decl+"q(a) :- p(X,a).")
		// It says nothing about a predicate that does not occur.
		wantTypes(t, "q(a). "+decl, "q(sym)")
	}
	wantTypes(t, "@min p. @min q. p(X,Y). q(X,Y). r(X,Y).", "p(any,int) q(any,int) r(any,any)")
}

// P15.2: what other rules require, before or after, reaches every place.
func TestAllRulesTogether(t *testing.T) {
	const text = "a(X) :- b(X). b(X) :- c(X), d(Y). c(X) :- e(X,Y), X = Y. e(X,Y) :- e(Y,X). "
	wantTypes(t, text, "a(any) b(any) c(any) d(any) e(any,any)")
	wantTypes(t, text+"a(1).", "a(int) b(int) c(int) d(any) e(int,int)")
	wantTypes(t, "a(x). "+text, "a(sym) b(sym) c(sym) d(any) e(sym,sym)")
	wantTypes(t, "d(x). "+text+"f(X) :- e(1,X).", "a(int) b(int) c(int) d(sym) e(int,int) f(int)")
	wantVars(t, text+"a(1).", 2, "X:int Y:int")
	wantVars(t, text+"a(1).", 1, "X:int Y:any")
	wantFault(t, fault.Type, 4, text+"e(1,a).")
	wantFault(t, fault.Type, 5, text+"a(1). e(2,b). e(2,3). e(b,b).")
}

// P15.2: the fault is at the first rule with which there is a contradiction.
func TestFirstTypeFault(t *testing.T) {
	wantFault(t, fault.Type, 2, "p(1). q(a). p(X) :- q(X). p(b).")
	wantFault(t, fault.Type, 2, "p(1). p(X) :- q(X). q(a). p(b).")
	wantFault(t, fault.Type, 3, "p(X) :- q(X). r(X) :- s(X), X < 1. s(X) :- p(X). q(a). q(b).")
	wantFault(t, fault.Type, 0, "p(X) :- X = 1, X = a. p(X) :- X = 1, X = a.")
}

// P15.3: all predicates that occur in rules, in byte order, each once.
func TestPreds(t *testing.T) {
	s := check(t, "@min z. b(X) :- aB(X), not a_(X), a1(X), aa(X), b(X). a(1). b(2).")
	if got := s.Preds(); !slices.Equal(got, []string{"a", "a1", "aB", "a_", "aa", "b"}) {
		t.Errorf("Preds() = %q", got)
	}
	for _, pred := range []string{"z", "", "c", "X", "A"} {
		if types, ok := s.Types(pred); len(types) != 0 || ok {
			t.Errorf("Types(%q) = %v, %v", pred, types, ok)
		}
	}
	if types, ok := s.Types("aa"); !slices.Equal(types, []sig.Type{sig.Int}) || !ok {
		t.Errorf("Types(aa) = %v, %v", types, ok)
	}
}

// P15.3: a variable that there is not is Any.
func TestNoVariable(t *testing.T) {
	s := check(t, "p(X) :- q(X,Y,a), Z := X. q(1,b,a).")
	for rule, names := range map[int][]string{-1: {"X"}, 0: {"", "A", "a", "p", "X1", "x"}, 1: {"X"}, 2: {"X"}, 1 << 40: {"X"}, -1 << 62: {"X"}} {
		for _, name := range names {
			if got := s.Var(rule, name); got != sig.Any {
				t.Errorf("Var(%d, %q) = %v", rule, name, got)
			}
		}
	}
	wantVars(t, "p(X) :- q(X,Y,a), Z := X. q(1,b,a).", 0, "X:int Y:sym Z:int")
}

// P15.3: programs without rules, and Sigs that Check did not make, have nothing.
func TestEmpty(t *testing.T) {
	list := []*sig.Sigs{{}, check(t, ""), check(t, "@min p. @max q.")}
	s, err := sig.Check(nil)
	if s == nil || err != nil {
		t.Fatalf("Check(nil) = %v, %v", s, err)
	}
	for _, s := range append(list, s) {
		types, ok := s.Types("p")
		if len(s.Preds()) != 0 || len(types) != 0 || ok || s.Var(0, "X") != sig.Any {
			t.Errorf("%v has something", s)
		}
	}
}

// Rule 3: arguments are not modified, and results share no memory.
func TestResultsAreSeparate(t *testing.T) {
	const text = "@min p. p(X,Y) :- q(X,Y), X != a. r(X) :- q(X,Y), Z := Y."
	p := program(t, text)
	s, err := sig.Check(p)
	if err != nil || !reflect.DeepEqual(p, program(t, text)) {
		t.Fatalf("Check(%q): %v, and the program is now %v", text, err, p)
	}
	want := describe(s)
	preds := s.Preds()
	types, _ := s.Types("q")
	_ = append(preds[:1], "changed", "changed")
	types[0], types[1] = 9, 9
	preds[0] = "changed"
	if got := describe(s); got != want {
		t.Errorf("now %s, and before %s", got, want)
	}
	p.Rules[0].Body[0].Atom.Args[0] = syntax.Term{Kind: syntax.Int, N: 1}
	p.Rules = p.Rules[:1]
	if got := describe(s); got != want || s.Var(0, "X") != sig.Sym {
		t.Errorf("now %s, and before %s", got, want)
	}
}

// Rule 4: another call returns the same.
func TestSameEachTime(t *testing.T) {
	text := facts(55) + "a(X,Y) :- b(Y,X), c(X). b(1,X) :- d(X). c(e)."
	want := describe(check(t, text))
	for range 50 {
		wantTypes(t, text, want)
		wantFault(t, fault.Type, 58, text+" p54(a). d(a). b(a,1).")
	}
}
