package plan_test

import (
	"math/rand"
	"reflect"
	"slices"
	"strconv"
	"strings"
	"testing"

	"ergo/intern"
	"ergo/parse"
	"ergo/plan"
	"ergo/safe"
	"ergo/syntax"
)

// P21.1, P21.2: for random rules the plan is the one that the definition gives.
func TestRandomRules(t *testing.T) {
	r := rand.New(rand.NewSource(1))
	plans := 0
	for range 20000 {
		text := randomRule(r)
		p, err := parse.Program(text)
		if err != nil {
			t.Fatalf("Program(%q): %v", text, err)
		}
		order, err := safe.Order(p.Rules[0])
		if err != nil {
			continue
		}
		plans++
		ids := intern.New()
		x := plan.Make(p.Rules[0], order, ids)
		holdsDefinition(t, p.Rules[0], order, x, ids)
		if t.Failed() {
			return
		}
	}
	if plans < 5000 {
		t.Errorf("only %d rules are safe", plans)
	}
}

func pick(r *rand.Rand, words string) string {
	list := strings.Fields(words)
	return list[r.Intn(len(list))]
}

func randomAtom(r *rand.Rand) string {
	var terms []string
	for range 1 + r.Intn(6) {
		terms = append(terms, pick(r, "A B C D E a b c 1 -2"))
	}
	return pick(r, "p q r") + "(" + strings.Join(terms, ",") + ")"
}

func randomExpression(r *rand.Rand, depth int) string {
	if depth == 0 || r.Intn(3) == 0 {
		return pick(r, "A B C D E 1 -2")
	}
	return "(" + randomExpression(r, depth-1) + pick(r, "+ - * / %") + randomExpression(r, depth-1) + ")"
}

func randomPart(r *rand.Rand) string {
	switch r.Intn(7) {
	case 0:
		return "not " + randomAtom(r)
	case 1:
		return pick(r, "A B C a b c 1 -2") + pick(r, "= != < <= > >=") + pick(r, "A B C a b c 1 -2")
	case 2:
		return pick(r, "A B C D E") + " := " + randomExpression(r, 3)
	}
	return randomAtom(r)
}

func randomRule(r *rand.Rand) string {
	var parts []string
	for range 1 + r.Intn(6) {
		parts = append(parts, randomPart(r))
	}
	return randomAtom(r) + " :- " + strings.Join(parts, ", ") + "."
}

// reader turns a plan back into a rule, by what its arguments mean.
type reader struct {
	t       *testing.T
	plan    plan.Plan
	bound   int      // the columns that are bound before the step
	symbols []string // in the order in which the plan has them
	ids     *intern.Table
}

// holdsDefinition fails unless x is the plan of the rule.
func holdsDefinition(t *testing.T, r syntax.Rule, order []int, x plan.Plan, ids *intern.Table) {
	t.Helper()
	if x.Pred != r.Head.Pred || x.Agg != r.Agg || len(x.Steps) != len(order) {
		t.Fatalf("Make(%v) = %+v", r, x)
	}
	read := &reader{t: t, plan: x, ids: ids}
	for n, step := range x.Steps {
		if step.Part != order[n] {
			t.Fatalf("Make(%v): step %d has the part %d", r, n, step.Part)
		}
		if got := read.part(step, r.Body[step.Part]); !reflect.DeepEqual(got, r.Body[step.Part]) {
			t.Fatalf("Make(%v): step %d, %+v, is %v", r, n, step, got)
		}
	}
	if got := read.atom(x.Pred, x.Head, r.Head.Args); !reflect.DeepEqual(got, r.Head) {
		t.Fatalf("Make(%v): the head %v is %v", r, x.Head, got)
	}
	if read.bound != len(x.Vars) || read.bound != len(boundVars(r)) {
		t.Fatalf("Make(%v) has the variables %v, and binds %d", r, x.Vars, read.bound)
	}
	for i, symbol := range read.firstSymbols() {
		if id, ok := ids.Find(symbol); !ok || id != int64(i) {
			t.Fatalf("Make(%v): %s has the number %d, want %d", r, symbol, id, i)
		}
	}
	if ids.Len() != len(read.firstSymbols()) {
		t.Fatalf("Make(%v): %d symbols have numbers", r, ids.Len())
	}
}

// boundVars returns each variable of the rule once.
func boundVars(r syntax.Rule) []string {
	return slices.Compact(slices.Sorted(slices.Values(r.Vars())))
}

// firstSymbols returns the symbols without repetitions.
func (x *reader) firstSymbols() []string {
	var list []string
	for _, symbol := range x.symbols {
		if !slices.Contains(list, symbol) {
			list = append(list, symbol)
		}
	}
	return list
}

// part returns the part that the step means, and binds the step's columns.
// Of the part that it should be, it only uses what the step can't tell:
// which of its numbers are symbols.
func (x *reader) part(s plan.Step, like syntax.Part) syntax.Part {
	switch s.Kind {
	case plan.Scan:
		return syntax.Part{Form: syntax.Pos, Atom: x.scan(s, like.Atom.Args)}
	case plan.Not:
		return syntax.Part{Form: syntax.Neg, Atom: x.atom(s.Pred, s.Args, like.Atom.Args)}
	case plan.Test:
		a := x.term(s.A, like.A)
		return syntax.Part{Form: syntax.Cmp, Op: s.Op, A: a, B: x.term(s.B, like.B)}
	}
	expr := x.expr(s.Code)
	return syntax.Part{Form: syntax.Let, Name: x.column(s.Col), Expr: expr}
}

// column returns the name of the column that a Let or a Scan binds or compares.
func (x *reader) column(a plan.Arg) string {
	if a.Kind == plan.New {
		if a.N != int64(x.bound) {
			x.t.Errorf("column %d becomes bound after %d others", a.N, x.bound)
		}
		x.bound++
		return x.plan.Vars[a.N]
	}
	return x.term(a, syntax.Term{}).Text
}

func (x *reader) scan(s plan.Step, like []syntax.Term) syntax.Atom {
	atom := syntax.Atom{Pred: s.Pred}
	before := x.bound
	for i, arg := range s.Args {
		term := syntax.Term{Kind: syntax.Var}
		switch arg.Kind {
		case plan.New:
			term.Text = x.column(arg)
		case plan.Same:
			if arg.N < 0 || arg.N >= int64(i) || s.Args[arg.N].Kind != plan.New {
				x.t.Fatalf("%+v refers to no earlier New", s)
			}
			term = atom.Args[arg.N]
		default:
			if arg.Kind == plan.Old && arg.N >= int64(before) {
				x.t.Fatalf("%+v uses a column of its own", s)
			}
			term = x.term(arg, like[i])
		}
		atom.Args = append(atom.Args, term)
	}
	return atom
}

func (x *reader) atom(pred string, args []plan.Arg, like []syntax.Term) syntax.Atom {
	atom := syntax.Atom{Pred: pred}
	for i, arg := range args {
		atom.Args = append(atom.Args, x.term(arg, like[i]))
	}
	return atom
}

// term returns the term that a Const or an Old means.
func (x *reader) term(a plan.Arg, like syntax.Term) syntax.Term {
	switch {
	case a.Kind == plan.Old && a.N >= 0 && a.N < int64(x.bound):
		return syntax.Term{Kind: syntax.Var, Text: x.plan.Vars[a.N]}
	case a.Kind == plan.Const && like.Kind == syntax.Sym:
		symbol, _ := x.ids.Text(a.N)
		x.symbols = append(x.symbols, symbol)
		return syntax.Term{Kind: syntax.Sym, Text: symbol}
	case a.Kind == plan.Const:
		return syntax.Term{Kind: syntax.Int, N: a.N}
	}
	x.t.Fatalf("%v is neither a Const nor a column that is bound, of %s", a, strconv.Itoa(x.bound))
	return syntax.Term{}
}

// expr runs the code on a stack of expressions.
func (x *reader) expr(code []plan.Ins) syntax.Expr {
	var stack []syntax.Expr
	for _, ins := range code {
		if !ins.Do {
			stack = append(stack, syntax.Expr{Term: x.term(ins.Arg, syntax.Term{})})
			continue
		}
		if len(stack) < 2 || ins.Arg != (plan.Arg{}) {
			x.t.Fatalf("%v: %v has no two operands, or an argument", code, ins)
		}
		rest := len(stack) - 2
		stack = append(stack[:rest], syntax.Expr{Op: ins.Op, Kids: slices.Clone(stack[rest:])})
	}
	if len(stack) != 1 {
		x.t.Fatalf("%v leaves %d values", code, len(stack))
	}
	return stack[0]
}
