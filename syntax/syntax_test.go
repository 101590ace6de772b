package syntax_test

import (
	"math"
	"math/rand"
	"slices"
	"strings"
	"testing"

	"ergo/arith"
	"ergo/column"
	"ergo/group"
	"ergo/syntax"
)

func vari(s string) syntax.Term { return syntax.Term{Kind: syntax.Var, Text: s} }
func num(n int64) syntax.Term   { return syntax.Term{Kind: syntax.Int, N: n} }
func sym(s string) syntax.Term  { return syntax.Term{Kind: syntax.Sym, Text: s} }

func atom(pred string, args ...syntax.Term) syntax.Atom {
	return syntax.Atom{Pred: pred, Args: args}
}

func leaf(t syntax.Term) syntax.Expr { return syntax.Expr{Term: t} }

func do(o arith.Op, a, b syntax.Expr) syntax.Expr {
	return syntax.Expr{Op: o, Kids: []syntax.Expr{a, b}}
}

func pos(a syntax.Atom) syntax.Part { return syntax.Part{Form: syntax.Pos, Atom: a} }
func neg(a syntax.Atom) syntax.Part { return syntax.Part{Form: syntax.Neg, Atom: a} }

func compare(o column.Op, a, b syntax.Term) syntax.Part {
	return syntax.Part{Form: syntax.Cmp, Op: o, A: a, B: b}
}

func let(name string, x syntax.Expr) syntax.Part {
	return syntax.Part{Form: syntax.Let, Name: name, Expr: x}
}

// wantText fails unless got is want.
func wantText(t *testing.T, got, want string) {
	t.Helper()
	if got != want {
		t.Errorf("String() = %q, want %q", got, want)
	}
}

// wantVars fails unless got is the words of want.
func wantVars(t *testing.T, got []string, want string) {
	t.Helper()
	if !slices.Equal(got, strings.Fields(want)) {
		t.Errorf("Vars() = %q, want %q", got, want)
	}
}

// P13.1: the kinds and the forms are numbered in order.
func TestNumbers(t *testing.T) {
	if syntax.Var != 0 || syntax.Int != 1 || syntax.Sym != 2 {
		t.Error("the kinds are not Var, Int, Sym")
	}
	if syntax.Pos != 0 || syntax.Neg != 1 || syntax.Cmp != 2 || syntax.Let != 3 {
		t.Error("the forms are not Pos, Neg, Cmp, Let")
	}
}

// The chapter's example.
func TestExample(t *testing.T) {
	r := syntax.Rule{
		Head: atom("p", vari("X"), vari("Y")),
		Agg:  group.Sum,
		Body: []syntax.Part{
			pos(atom("q", vari("X"), vari("Z"))),
			let("Y", do(arith.Mul, do(arith.Add, leaf(vari("Z")), leaf(num(1))), leaf(num(2)))),
		},
	}
	wantText(t, r.String(), "p(X,sum<Y>) :- q(X,Z), Y := (Z + 1) * 2.")
	wantVars(t, r.Vars(), "X Y Z")
}

// P13.2: terms.
func TestTermString(t *testing.T) {
	for want, term := range map[string]syntax.Term{
		"X":                    vari("X"),
		"Abc_9":                vari("Abc_9"),
		"0":                    num(0),
		"7":                    num(7),
		"-5":                   num(-5),
		"9223372036854775807":  num(math.MaxInt64),
		"-9223372036854775808": num(math.MinInt64),
		"a":                    sym("a"),
		"min":                  sym("min"),
		"nothing":              sym("nothing"),
		`"not"`:                sym("not"),
		`""`:                   sym(""),
		`"New Town"`:           sym("New Town"),
		`"X"`:                  sym("X"),
		`"7"`:                  sym("7"),
		`"_a"`:                 sym("_a"),
		`"a\"\n\\"`:            sym("a\"\n\\"),
	} {
		wantText(t, term.String(), want)
	}
	long := strings.Repeat("a", 60)
	wantText(t, sym(long).String(), long)
}

// P13.2: an atom's terms are separated by commas alone.
func TestAtomString(t *testing.T) {
	wantText(t, atom("p", vari("X")).String(), "p(X)")
	wantText(t, atom("p", vari("X"), num(-1), sym("a"), sym("B c")).String(), `p(X,-1,a,"B c")`)
	wantText(t, atom("p").String(), "p()")
	wantText(t, atom("").String(), "()")
}

// P13.2: an expression without two Kids is its term.
func TestExprOfATerm(t *testing.T) {
	wantText(t, leaf(vari("X")).String(), "X")
	wantText(t, leaf(num(-3)).String(), "-3")
	for _, count := range []int{1, 3} {
		x := syntax.Expr{Term: vari("X"), Kids: make([]syntax.Expr, count)}
		wantText(t, x.String(), "X")
		wantVars(t, x.Vars(), "X")
	}
}

// P13.2: the sign of each operator, with spaces around it.
func TestExprSigns(t *testing.T) {
	for o, want := range []string{"A + 1", "A - 1", "A * 1", "A / 1", "A % 1"} {
		wantText(t, do(arith.Op(o), leaf(vari("A")), leaf(num(1))).String(), want)
	}
	wantText(t, do(99, leaf(vari("A")), leaf(num(-1))).String(), "A  -1")
	wantText(t, do(-1, leaf(vari("A")), leaf(num(-1))).String(), "A  -1")
}

// P13.2: for each pair of operators, which Kids are in parentheses.
func TestExprParentheses(t *testing.T) {
	a, b, c := leaf(vari("A")), leaf(vari("B")), leaf(vari("C"))
	signs := []string{"+", "-", "*", "/", "%"}
	for o, outer := range signs {
		for i, inner := range signs {
			kid := do(arith.Op(i), a, b)
			sumInProduct := i < 2 && o >= 2
			sameLevel := (i < 2) == (o < 2)
			first, second := "A "+inner+" B", "A "+inner+" B"
			if sumInProduct {
				first = "(" + first + ")"
			}
			if sumInProduct || sameLevel {
				second = "(" + second + ")"
			}
			wantText(t, do(arith.Op(o), kid, c).String(), first+" "+outer+" C")
			wantText(t, do(arith.Op(o), c, kid).String(), "C "+outer+" "+second)
		}
	}
}

// P13.2: numbers that are not operators are of neither group.
func TestExprUnknownOperators(t *testing.T) {
	a, b := leaf(vari("A")), leaf(vari("B"))
	for _, o := range []arith.Op{-1, 5, math.MaxInt64, math.MinInt64} {
		wantText(t, do(o, a, do(o, a, b)).String(), "A  A  B")
		wantText(t, do(arith.Mul, a, do(o, a, b)).String(), "A * A  B")
		wantText(t, do(o, do(arith.Add, a, b), do(arith.Add, a, b)).String(), "A + B  A + B")
	}
}

// P13.2: longer expressions.
func TestExprNested(t *testing.T) {
	x := func(s string) syntax.Expr { return leaf(vari(s)) }
	sum := do(arith.Sub, do(arith.Add, x("A"), x("B")), x("C"))
	wantText(t, sum.String(), "A + B - C")
	wantText(t, do(arith.Div, sum, sum).String(), "(A + B - C) / (A + B - C)")
	product := do(arith.Mod, do(arith.Mul, x("A"), x("B")), leaf(num(-2)))
	wantText(t, product.String(), "A * B % -2")
	wantText(t, do(arith.Add, product, product).String(), "A * B % -2 + A * B % -2")
	wantText(t, do(arith.Mul, x("A"), do(arith.Mul, x("B"), do(arith.Mul, x("C"), x("D")))).String(), "A * (B * (C * D))")
	wantText(t, do(arith.Sub, x("A"), do(arith.Mul, x("B"), do(arith.Sub, x("C"), x("D")))).String(), "A - B * (C - D)")
	// A term beside two Kids has no meaning.
	wantText(t, syntax.Expr{Term: num(4), Kids: []syntax.Expr{x("A"), x("B")}}.String(), "A + B")
	// A Kid without two Kids of its own is a term, whatever its operator is.
	wantText(t, do(arith.Mul, syntax.Expr{Term: num(4), Op: arith.Add}, x("B")).String(), "4 * B")
	wantText(t, do(arith.Mul, x("B"), syntax.Expr{Term: num(4), Op: arith.Mul, Kids: make([]syntax.Expr, 1)}).String(), "B * 4")
}

// Rule 1: expressions as deep as the document's bound are printed.
func TestExprDeep(t *testing.T) {
	left, right := leaf(vari("A")), leaf(vari("A"))
	const depth = 1<<16 - 1
	for range depth {
		left = do(arith.Add, left, leaf(num(1)))
		right = do(arith.Add, leaf(num(1)), right)
	}
	wantText(t, left.String(), "A"+strings.Repeat(" + 1", depth))
	wantText(t, right.String(), strings.Repeat("1 + (", depth-1)+"1 + A"+strings.Repeat(")", depth-1))
	wantVars(t, left.Vars(), "A")
	wantVars(t, right.Vars(), "A")
}

// P13.2: the four forms of parts.
func TestPartString(t *testing.T) {
	q := atom("q", vari("X"), sym("a b"))
	wantText(t, pos(q).String(), `q(X,"a b")`)
	wantText(t, neg(q).String(), `not q(X,"a b")`)
	for o, want := range []string{"X = -1", "X != -1", "X < -1", "X <= -1", "X > -1", "X >= -1"} {
		wantText(t, compare(column.Op(o), vari("X"), num(-1)).String(), want)
	}
	wantText(t, compare(column.Eq, sym("not"), sym("a")).String(), `"not" = a`)
	wantText(t, compare(99, vari("X"), vari("Y")).String(), "X  Y")
	wantText(t, let("X", do(arith.Sub, leaf(vari("Y")), leaf(num(-1)))).String(), "X := Y - -1")
}

// P13.2: rules with and without bodies and aggregates.
func TestRuleString(t *testing.T) {
	wantText(t, syntax.Rule{Head: atom("p", num(1), sym("a"))}.String(), "p(1,a).")
	body := []syntax.Part{pos(atom("q", vari("X"))), neg(atom("r", vari("X"))), compare(column.Lt, vari("X"), num(3))}
	wantText(t, syntax.Rule{Head: atom("p", vari("X")), Body: body[:1], At: 7}.String(), "p(X) :- q(X).")
	wantText(t, syntax.Rule{Head: atom("p", vari("X")), Body: body}.String(), "p(X) :- q(X), not r(X), X < 3.")
	for agg, want := range []string{"p(X,Y).", "p(X,count<Y>).", "p(X,sum<Y>).", "p(X,min<Y>).", "p(X,max<Y>)."} {
		wantText(t, syntax.Rule{Head: atom("p", vari("X"), vari("Y")), Agg: group.Agg(agg)}.String(), want)
	}
	wantText(t, syntax.Rule{Head: atom("p", vari("X")), Agg: group.Max, Body: body[:1]}.String(), "p(max<X>) :- q(X).")
	// Numbers that are no aggregates have no word, and without terms none is the last.
	wantText(t, syntax.Rule{Head: atom("p", vari("X")), Agg: 99}.String(), "p(<X>).")
	wantText(t, syntax.Rule{Head: atom("p"), Agg: group.Sum}.String(), "p().")
}

// P13.2: declarations and programs.
func TestProgramString(t *testing.T) {
	least, greatest := syntax.Decl{Pred: "p", At: 5}, syntax.Decl{Pred: "q", Max: true}
	wantText(t, least.String(), "@min p.")
	wantText(t, greatest.String(), "@max q.")
	rules := []syntax.Rule{
		{Head: atom("p", num(1)), At: 3},
		{Head: atom("q", vari("X")), Body: []syntax.Part{pos(atom("p", vari("X")))}},
	}
	p := &syntax.Program{Decls: []syntax.Decl{greatest, least}, Rules: rules}
	wantText(t, p.String(), "@max q.\n@min p.\np(1).\nq(X) :- p(X).\n")
	wantText(t, (&syntax.Program{}).String(), "")
	wantText(t, (&syntax.Program{Rules: rules[:1]}).String(), "p(1).\n")
	wantText(t, (&syntax.Program{Decls: p.Decls[:1]}).String(), "@max q.\n")
}

// P13.3: Vars of atoms, expressions and parts keep the order and the repetitions.
func TestVars(t *testing.T) {
	q := atom("q", vari("Y"), num(1), vari("X"), sym("Z"), vari("Y"))
	wantVars(t, q.Vars(), "Y X Y")
	wantVars(t, atom("q", num(1), sym("X")).Vars(), "")
	wantVars(t, atom("q").Vars(), "")
	wantVars(t, pos(q).Vars(), "Y X Y")
	wantVars(t, neg(q).Vars(), "Y X Y")
	wantVars(t, compare(column.Lt, vari("B"), vari("A")).Vars(), "B A")
	wantVars(t, compare(column.Lt, vari("B"), vari("B")).Vars(), "B B")
	wantVars(t, compare(column.Lt, num(1), vari("A")).Vars(), "A")
	wantVars(t, compare(column.Lt, vari("A"), sym("B")).Vars(), "A")
	wantVars(t, compare(column.Lt, num(1), sym("B")).Vars(), "")
	x := do(arith.Add, do(arith.Mul, leaf(vari("C")), leaf(num(2))), do(arith.Sub, leaf(vari("A")), leaf(vari("C"))))
	wantVars(t, x.Vars(), "C A C")
	wantVars(t, leaf(num(1)).Vars(), "")
	wantVars(t, leaf(sym("X")).Vars(), "")
	wantVars(t, let("B", x).Vars(), "B C A C")
	wantVars(t, let("C", leaf(vari("C"))).Vars(), "C C")
	wantVars(t, let("B", leaf(num(1))).Vars(), "B")
}

// P13.1, P13.3: the fields that a form does not use do not matter.
func TestUnusedFields(t *testing.T) {
	full := syntax.Part{
		Atom: atom("q", vari("X")), Op: column.Ne, A: vari("A"), B: vari("B"), Name: "N", Expr: leaf(vari("E")),
	}
	texts := []string{"q(X)", "not q(X)", "A != B", "N := E"}
	names := []string{"X", "X", "A B", "N E"}
	for form := range texts {
		full.Form = syntax.Form(form)
		wantText(t, full.String(), texts[form])
		wantVars(t, full.Vars(), names[form])
	}
	for _, form := range []syntax.Form{-1, 4, math.MaxInt64, math.MinInt64} {
		full.Form = form
		wantText(t, full.String(), "")
		wantVars(t, full.Vars(), "")
	}
	wantText(t, syntax.Term{Kind: 9, Text: "A", N: 3}.String(), "A")
	wantVars(t, atom("p", syntax.Term{Kind: 9, Text: "A"}, syntax.Term{Kind: -1, Text: "B"}).Vars(), "")
}

// P13.3: a rule's variables are listed once: those of the head first.
func TestRuleVars(t *testing.T) {
	r := syntax.Rule{
		Head: atom("p", vari("Z"), vari("A"), vari("Z")),
		Agg:  group.Sum,
		Body: []syntax.Part{
			neg(atom("q", vari("B"), vari("A"))),
			let("D", do(arith.Add, leaf(vari("C")), leaf(vari("D")))),
			compare(column.Eq, vari("E"), vari("B")),
			pos(atom("q", vari("F"), sym("G"), vari("E"))),
		},
	}
	wantVars(t, r.Vars(), "Z A B D C E F")
	wantVars(t, syntax.Rule{}.Vars(), "")
	wantVars(t, syntax.Rule{Head: atom("p", num(1))}.Vars(), "")
	r.Head = atom("p", num(1))
	wantVars(t, r.Vars(), "B A D C E F")
}

// P13.3: against a plain search, for random rules.
func TestRandomRuleVars(t *testing.T) {
	r := rand.New(rand.NewSource(1))
	for range 500 {
		rule := syntax.Rule{Head: randomAtom(r)}
		all := rule.Head.Vars()
		for range r.Intn(5) {
			part := syntax.Part{Form: syntax.Form(r.Intn(2)), Atom: randomAtom(r)}
			rule.Body = append(rule.Body, part)
			all = append(all, part.Vars()...)
		}
		var once []string
		for _, name := range all {
			if !slices.Contains(once, name) {
				once = append(once, name)
			}
		}
		if got := rule.Vars(); !slices.Equal(got, once) {
			t.Fatalf("%v: Vars() = %q, want %q", rule, got, once)
		}
	}
}

func randomAtom(r *rand.Rand) syntax.Atom {
	a := atom("p")
	for range r.Intn(4) {
		a.Args = append(a.Args, []syntax.Term{vari(string(rune('A' + r.Intn(6)))), num(1), sym("A")}[r.Intn(3)])
	}
	return a
}

// Rule 3: results share no memory with the arguments or with each other.
func TestResultsAreSeparate(t *testing.T) {
	r := syntax.Rule{Head: atom("p", vari("X")), Body: []syntax.Part{let("Y", leaf(vari("X")))}}
	for _, vars := range []func() []string{r.Vars, r.Head.Vars, r.Body[0].Vars, r.Body[0].Expr.Vars} {
		first := vars()
		want := slices.Clone(first)
		first[0] = "changed"
		_ = append(first[:0], "changed", "changed")
		if got := vars(); !slices.Equal(got, want) {
			t.Errorf("Vars() = %q, want %q", got, want)
		}
	}
	wantText(t, r.String(), "p(X) :- Y := X.")
}
