package plan_test

import (
	"reflect"
	"slices"
	"strconv"
	"strings"
	"testing"

	"ergo/arith"
	"ergo/column"
	"ergo/group"
	"ergo/intern"
	"ergo/parse"
	"ergo/plan"
	"ergo/safe"
	"ergo/syntax"
)

// rule returns the only rule of the text, and its order.
func rule(t *testing.T, text string) (syntax.Rule, []int) {
	t.Helper()
	p, err := parse.Program(text)
	if err != nil || len(p.Rules) != 1 {
		t.Fatalf("Program(%q) = %v, %v", text, p, err)
	}
	order, err := safe.Order(p.Rules[0])
	if err != nil {
		t.Fatalf("Order(%q): %v", text, err)
	}
	return p.Rules[0], order
}

// makePlan returns the plan of the text's rule.
func makePlan(t *testing.T, text string, ids *intern.Table) plan.Plan {
	t.Helper()
	r, order := rule(t, text)
	return plan.Make(r, order, ids)
}

// wantPlan fails unless the plan of the text's rule is printed like that.
func wantPlan(t *testing.T, text string, want ...string) {
	t.Helper()
	if got := printed(makePlan(t, text, intern.New())); !slices.Equal(got, want) {
		t.Errorf("Make(%q) is\n%s\nwant\n%s", text, strings.Join(got, "\n"), strings.Join(want, "\n"))
	}
}

// printed returns the plan's steps, its head and its variables as lines.
func printed(p plan.Plan) []string {
	var lines []string
	for _, s := range p.Steps {
		lines = append(lines, strconv.Itoa(s.Part)+" "+printedStep(s))
	}
	head := "head " + p.Pred + " " + printedArgs(p.Head)
	if p.Agg != group.None {
		head += " " + p.Agg.Word()
	}
	return append(lines, head, "vars "+strings.Join(p.Vars, " "))
}

func printedStep(s plan.Step) string {
	switch s.Kind {
	case plan.Scan:
		return "scan " + s.Pred + " " + printedArgs(s.Args)
	case plan.Not:
		return "not " + s.Pred + " " + printedArgs(s.Args)
	case plan.Test:
		return "test " + printedArg(s.A) + " " + s.Op.Sign() + " " + printedArg(s.B)
	case plan.Let:
		return "let " + printedCode(s.Code) + " into " + printedArg(s.Col)
	}
	return "kind " + strconv.Itoa(int(s.Kind))
}

func printedCode(code []plan.Ins) string {
	var words []string
	for _, ins := range code {
		if ins.Do {
			words = append(words, ins.Op.Sign())
			continue
		}
		words = append(words, printedArg(ins.Arg))
	}
	return strings.Join(words, " ")
}

func printedArgs(args []plan.Arg) string {
	var words []string
	for _, arg := range args {
		words = append(words, printedArg(arg))
	}
	return strings.Join(words, " ")
}

func printedArg(a plan.Arg) string {
	return []string{"const:", "old:", "new:", "same:"}[a.Kind] + strconv.FormatInt(a.N, 10)
}

// The chapter's example.
func TestExample(t *testing.T) {
	wantPlan(t, "p(X) :- q(X,X,1), Y := X + 2, Y > 3.",
		"0 scan q new:0 same:0 const:1",
		"1 let old:0 const:2 + into new:1",
		"2 test old:1 > const:3",
		"head p old:0",
		"vars X Y")
}

// P21.1: Pred and Agg are the head's.
func TestHead(t *testing.T) {
	wantPlan(t, "p(1).", "head p const:1", "vars ")
	wantPlan(t, "p(Y,-7,X,Y) :- q(X,Y).", "0 scan q new:0 new:1", "head p old:1 const:-7 old:0 old:1", "vars X Y")
	for _, agg := range []group.Agg{group.Count, group.Sum, group.Min, group.Max} {
		text := "total(X,a," + agg.Word() + "<Y>) :- q(Y,X)."
		wantPlan(t, text, "0 scan q new:0 new:1", "head total old:1 const:0 old:0 "+agg.Word(), "vars Y X")
	}
	if got := makePlan(t, "p(X) :- q(X).", intern.New()); got.Pred != "p" || got.Agg != group.None {
		t.Errorf("Pred is %q, and Agg %v", got.Pred, got.Agg)
	}
}

// P21.1: columns are numbered as the variables become bound, and not as the
// rule mentions them.
func TestColumns(t *testing.T) {
	wantPlan(t, "p(A,B,C,D) :- D := C + A, C > 1, q(C,1,B), not r(B), r(A).",
		"2 scan q new:0 const:1 new:1",
		"1 test old:0 > const:1",
		"3 not r old:1",
		"4 scan r new:2",
		"0 let old:0 old:2 + into new:3",
		"head p old:2 old:1 old:0 old:3",
		"vars C B A D")
	wantPlan(t, "p(X) :- q(Z,Y,Z,X,Y).",
		"0 scan q new:0 new:1 same:0 new:2 same:1",
		"head p old:2",
		"vars Z Y X")
	wantPlan(t, "p(1) :- q(2), 1 < 2.", "0 scan q const:2", "1 test const:1 < const:2", "head p const:1", "vars ")
}

// P21.1: a symbol with a variable's name is no variable.
func TestNamesAndQuotedSymbols(t *testing.T) {
	wantPlan(t, `p(X,"X") :- q("X",X,"X",x).`,
		"0 scan q const:0 new:0 const:0 const:1",
		"head p old:0 const:0",
		"vars X")
}

// wantSymbols fails unless the symbols of the text's rule get their numbers in
// the order of want, after those that are there already.
func wantSymbols(t *testing.T, text string, want ...string) {
	t.Helper()
	ids := intern.New()
	ids.ID("there")
	makePlan(t, text, ids)
	var got []string
	for i := 1; i < ids.Len(); i++ {
		symbol, _ := ids.Text(int64(i))
		got = append(got, symbol)
	}
	if !slices.Equal(got, want) {
		t.Errorf("Make(%q) gives numbers to %q, want %q", text, got, want)
	}
}

// P21.1: symbols get their numbers step by step, and then in the head.
func TestSymbolOrder(t *testing.T) {
	wantSymbols(t, "p(a,there,b,a).", "a", "b")
	wantSymbols(t, "p(a,b) :- q(c,a).", "c", "a", "b")
	wantSymbols(t, "p(a) :- X = b, q(X,c,d), e != X, not r(g,f), h > i.", "c", "d", "b", "e", "g", "f", "h", "i", "a")
	wantSymbols(t, "p(1) :- q(X), X := 2, 1 < 2, not r(3).")
	// Predicates and variables are not symbols.
	wantSymbols(t, `p("X") :- q(X), r(r).`, "r", "X")
}

// P21.1: symbols that have numbers keep them.
func TestKnownSymbols(t *testing.T) {
	ids := intern.New()
	for _, symbol := range []string{"c", "b", "a"} {
		ids.ID(symbol)
	}
	want := []string{"0 scan q const:2 const:3 const:1", "1 not q const:0 const:0 const:3", "head p const:2 const:4", "vars "}
	for range 2 {
		if got := printed(makePlan(t, `p(a,"") :- q(a,d,b), not q(c,c,d).`, ids)); !slices.Equal(got, want) {
			t.Errorf("Make() is %v, want %v", got, want)
		}
	}
	if ids.Len() != 5 {
		t.Errorf("%d symbols have numbers", ids.Len())
	}
}

// P21.2: the arguments of a positive atom.
func TestScans(t *testing.T) {
	wantPlan(t, "p(X) :- q(X,Y,X,a,-5,Y).",
		"0 scan q new:0 new:1 same:0 const:0 const:-5 same:1",
		"head p old:0",
		"vars X Y")
	// Same names the position, which is not the column.
	wantPlan(t, "p(X) :- q(A,X), r(1,A,Y,Y,A,Y).",
		"0 scan q new:0 new:1",
		"1 scan r const:1 old:0 new:2 same:2 old:0 same:2",
		"head p old:1",
		"vars A X Y")
	// What was bound before the step is Old at each occurrence.
	wantPlan(t, "p(X) :- q(X,X), q(X,X).",
		"0 scan q new:0 same:0",
		"1 scan q old:0 old:0",
		"head p old:0",
		"vars X")
}

// P21.2: the arguments of a negative atom.
func TestNots(t *testing.T) {
	wantPlan(t, "p(X) :- not r(Y,1,X,a,Y), q(X,Y), not r(b).",
		"1 scan q new:0 new:1",
		"0 not r old:1 const:1 old:0 const:0 old:1",
		"2 not r const:1",
		"head p old:0",
		"vars X Y")
}

// P21.2: the sides of a comparison.
func TestTests(t *testing.T) {
	for _, sign := range []string{"=", "!=", "<", "<=", ">", ">="} {
		wantPlan(t, "p(X) :- q(Y,X), X "+sign+" Y, 3 "+sign+" X, X "+sign+" a, b "+sign+" -4.",
			"0 scan q new:0 new:1",
			"1 test old:1 "+sign+" old:0",
			"2 test const:3 "+sign+" old:1",
			"3 test old:1 "+sign+" const:0",
			"4 test const:1 "+sign+" const:-4",
			"head p old:1",
			"vars Y X")
	}
}

// P21.2: the code of an expression, and its target.
func TestLets(t *testing.T) {
	for expression, code := range map[string]string{
		"7":                    "const:7",
		"-9223372036854775808": "const:-9223372036854775808",
		"Y":                    "old:1",
		"X - Y":                "old:0 old:1 -",
		"X - Y - 1":            "old:0 old:1 - const:1 -",
		"X - (Y - 1)":          "old:0 old:1 const:1 - -",
		"X + Y * 2":            "old:0 old:1 const:2 * +",
		"(X + Y) * 2 % Y":      "old:0 old:1 + const:2 * old:1 %",
		"6 / X / (1 + 2)":      "const:6 old:0 / const:1 const:2 + /",
	} {
		wantPlan(t, "p(Z) :- q(X,Y), Z := "+expression+".",
			"0 scan q new:0 new:1",
			"1 let "+code+" into new:2",
			"head p old:2",
			"vars X Y Z")
		wantPlan(t, "p(Y) :- q(X,Y), Y := "+expression+".",
			"0 scan q new:0 new:1",
			"1 let "+code+" into old:1",
			"head p old:1",
			"vars X Y")
	}
}

// P21.2: Part is the index in the body, and a Let binds its variable for the
// steps behind it.
func TestChainOfLets(t *testing.T) {
	wantPlan(t, "p(A) :- A := B * B, B := C + 1, C := 5, C := B.",
		"2 let const:5 into new:0",
		"1 let old:0 const:1 + into new:1",
		"0 let old:1 old:1 * into new:2",
		"3 let old:1 into old:0",
		"head p old:2",
		"vars C B A")
}

// P21.2: the fields that are not named are zero.
func TestOtherFieldsAreZero(t *testing.T) {
	got := makePlan(t, "p(X) :- not r(X), q(X,1), X >= a, Y := X * 2, X := Y.", intern.New())
	old, other := plan.Arg{Kind: plan.Old}, plan.Arg{Kind: plan.Old, N: 1}
	want := plan.Plan{
		Pred: "p",
		Head: []plan.Arg{old},
		Vars: []string{"X", "Y"},
		Steps: []plan.Step{
			{Kind: plan.Scan, Part: 1, Pred: "q", Args: []plan.Arg{{Kind: plan.New}, {N: 1}}},
			{Kind: plan.Not, Part: 0, Pred: "r", Args: []plan.Arg{old}},
			{Kind: plan.Test, Part: 2, Op: column.Ge, A: old},
			{Kind: plan.Let, Part: 3, Code: []plan.Ins{{Arg: old}, {Arg: plan.Arg{N: 2}}, {Do: true, Op: arith.Mul}}, Col: plan.Arg{Kind: plan.New, N: 1}},
			{Kind: plan.Let, Part: 4, Code: []plan.Ins{{Arg: other}}, Col: old},
		},
	}
	if !reflect.DeepEqual(got, want) {
		t.Errorf("Make() = %+v, want %+v", got, want)
	}
}

// The kinds have the numbers of the chapter.
func TestKinds(t *testing.T) {
	if got := []plan.ArgKind{plan.Const, plan.Old, plan.New, plan.Same}; !slices.Equal(got, []plan.ArgKind{0, 1, 2, 3}) {
		t.Errorf("the kinds of arguments are %v", got)
	}
	if got := []plan.Kind{plan.Scan, plan.Not, plan.Test, plan.Let}; !slices.Equal(got, []plan.Kind{0, 1, 2, 3}) {
		t.Errorf("the kinds of steps are %v", got)
	}
}

// Rule 1: Make ends for rules that no text denotes, for orders that are not
// theirs, and without a table.
func TestOddArguments(t *testing.T) {
	if got := plan.Make(syntax.Rule{}, nil, intern.New()); !reflect.DeepEqual(got, plan.Plan{}) {
		t.Errorf("Make of an empty rule = %v", got)
	}
	odd := syntax.Rule{Head: syntax.Atom{Args: []syntax.Term{{}, {Kind: 9}, {Kind: -1}}}, Agg: -1, Body: []syntax.Part{
		{Form: -1}, {Form: 9}, {}, {Form: syntax.Neg}, {Form: syntax.Let}, {Form: syntax.Cmp, Op: -3},
		{Form: syntax.Let, Expr: syntax.Expr{Kids: make([]syntax.Expr, 1)}},
		{Form: syntax.Let, Expr: syntax.Expr{Op: 77, Kids: make([]syntax.Expr, 2)}},
		{Form: syntax.Let, Expr: syntax.Expr{Kids: make([]syntax.Expr, 3)}},
	}}
	plan.Make(odd, []int{0, 1, 2, 3, 4, 5, 6, 7, 8}, intern.New())
	r, _ := rule(t, "p(X,a) :- q(X), not r(X,b), Y := X, Y > 1.")
	for _, order := range [][]int{nil, {-1}, {4}, {1 << 62, -1 << 63}, {3, 2, 1, 0}, {0, 0, 2, 2}} {
		plan.Make(r, order, intern.New())
		plan.Make(r, order, &intern.Table{})
		plan.Make(r, order, nil)
	}
}

// Rule 1: an expression as deep as the document's bound, on either side.
func TestDeepExpression(t *testing.T) {
	leaf := syntax.Expr{Term: syntax.Term{Kind: syntax.Int, N: 1}}
	left, right := leaf, leaf
	const depth = 1<<16 - 1
	for range depth {
		left = syntax.Expr{Op: arith.Add, Kids: []syntax.Expr{left, leaf}}
		right = syntax.Expr{Op: arith.Add, Kids: []syntax.Expr{leaf, right}}
	}
	for _, x := range []syntax.Expr{left, right} {
		r := syntax.Rule{Body: []syntax.Part{{Form: syntax.Let, Name: "X", Expr: x}}}
		if got := plan.Make(r, []int{0}, intern.New()); len(got.Steps) != 1 || len(got.Steps[0].Code) != 2*depth+1 {
			t.Errorf("Make() has %d steps", len(got.Steps))
		}
	}
}

// Rules 3 and 4: arguments are not modified, results share no memory, and a
// further call returns the same.
func TestResultsAreSeparate(t *testing.T) {
	const text = "p(X,a) :- Y > 1, q(X,Y,b), Z := Y + 1, not r(Z,c)."
	r, order := rule(t, text)
	ids := intern.New()
	first := plan.Make(r, order, ids)
	again, sameOrder := rule(t, text)
	if !reflect.DeepEqual(r, again) || !slices.Equal(order, sameOrder) {
		t.Fatalf("the rule is now %v, and the order %v", r, order)
	}
	want := printed(first)
	second := plan.Make(r, order, ids)
	spoil(first)
	clear(order)
	clear(r.Body)
	if got := printed(second); !slices.Equal(got, want) {
		t.Errorf("Make() is %v and then %v", want, got)
	}
	if got := printed(makePlan(t, text, ids)); !slices.Equal(got, want) {
		t.Errorf("Make() is %v and then %v", want, got)
	}
}

// spoil overwrites all lists of the plan, also behind their ends.
func spoil(p plan.Plan) {
	other := plan.Arg{Kind: plan.Same, N: 99}
	_ = append(p.Head, other)
	_ = append(p.Vars, "other")
	p.Head[0], p.Vars[0] = other, "other"
	for i := range p.Steps {
		for k := range p.Steps[i].Args {
			p.Steps[i].Args[k] = other
		}
		for k := range p.Steps[i].Code {
			p.Steps[i].Code[k] = plan.Ins{Arg: other}
		}
		_ = append(p.Steps[i].Args, other)
		_ = append(p.Steps[i].Code, plan.Ins{Arg: other})
	}
	clear(p.Steps)
}
