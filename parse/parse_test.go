package parse_test

import (
	"math"
	"math/rand"
	"reflect"
	"slices"
	"strconv"
	"strings"
	"testing"

	"ergo/api"
	"ergo/arith"
	"ergo/column"
	"ergo/fault"
	"ergo/group"
	"ergo/parse"
	"ergo/syntax"
)

func vari(s string) syntax.Term { return syntax.Term{Kind: syntax.Var, Text: s} }
func num(n int64) syntax.Term   { return syntax.Term{Kind: syntax.Int, N: n} }
func sym(s string) syntax.Term  { return syntax.Term{Kind: syntax.Sym, Text: s} }

func atom(pred string, args ...syntax.Term) syntax.Atom {
	return syntax.Atom{Pred: pred, Args: args}
}

func fact(at int, pred string, args ...syntax.Term) syntax.Rule {
	return syntax.Rule{Head: atom(pred, args...), At: at}
}

func leaf(t syntax.Term) syntax.Expr { return syntax.Expr{Term: t} }

func do(o arith.Op, a, b syntax.Expr) syntax.Expr {
	return syntax.Expr{Op: o, Kids: []syntax.Expr{a, b}}
}

func pos(a syntax.Atom) syntax.Part { return syntax.Part{Form: syntax.Pos, Atom: a} }
func neg(a syntax.Atom) syntax.Part { return syntax.Part{Form: syntax.Neg, Atom: a} }

func compare(o column.Op, a, b syntax.Term) syntax.Part {
	return syntax.Part{Form: syntax.Cmp, Op: o, A: a, B: b}
}

func let(name string, x syntax.Expr) syntax.Part {
	return syntax.Part{Form: syntax.Let, Name: name, Expr: x}
}

// wantProgram fails unless Program(s) returns that program.
func wantProgram(t *testing.T, s string, want syntax.Program) {
	t.Helper()
	got, err := parse.Program(s)
	if err != nil || !reflect.DeepEqual(*got, want) {
		t.Errorf("Program(%q) = %v, %v, want %v", s, got, err, want)
	}
}

// wantRules fails unless Program(s) returns these rules, and no declarations.
func wantRules(t *testing.T, s string, rules ...syntax.Rule) {
	t.Helper()
	wantProgram(t, s, syntax.Program{Rules: rules})
}

// wantPart fails unless the part has that text in a program.
func wantPart(t *testing.T, text string, part syntax.Part) {
	t.Helper()
	wantRules(t, "p(X) :- "+text+".", syntax.Rule{Head: atom("p", vari("X")), Body: []syntax.Part{part}})
}

// wantOK fails unless Program(s) returns a program.
func wantOK(t *testing.T, s string) {
	t.Helper()
	if p, err := parse.Program(s); p == nil || err != nil {
		t.Errorf("Program(%q) = %v, %v", s, p, err)
	}
}

// wantFault fails unless Program returns a fault of that tag for the text
// without its bar, at the place of the bar.
func wantFault(t *testing.T, tag fault.Tag, marked string) {
	t.Helper()
	before, after, found := strings.Cut(marked, "|")
	if !found || strings.Contains(after, "|") {
		t.Fatalf("%q has not one bar", marked)
	}
	p, err := parse.Program(before + after)
	if p != nil || fault.Of(err) != tag || fault.At(err) != len(before) || fault.Depth(err) != 1 {
		t.Errorf("Program(%q without |) = %v, %v, want %v at %d", marked, p, err, tag, len(before))
	}
}

// wantSyntax is wantFault with Syntax, for several texts.
func wantSyntax(t *testing.T, list ...string) {
	t.Helper()
	for _, marked := range list {
		wantFault(t, fault.Syntax, marked)
	}
}

// repeat returns count texts, separated by commas.
func repeat(text string, count int) string {
	return strings.Join(slices.Repeat([]string{text}, count), ",")
}

// variables returns the variables V0, V1 and so on, separated by commas.
func variables(from, count int) string {
	var list []string
	for i := range count {
		list = append(list, "V"+strconv.Itoa(from+i))
	}
	return strings.Join(list, ",")
}

// The chapter's example, and the document's.
func TestExamples(t *testing.T) {
	wantRules(t, "p(X) :- q(X, Y), Y > -1.", syntax.Rule{
		Head: atom("p", vari("X")),
		Body: []syntax.Part{pos(atom("q", vari("X"), vari("Y"))), compare(column.Gt, vari("Y"), num(-1))},
	})
	wantRules(t, "e(1,2). e(2,3).\nt(X,Y) :- e(X,Y). t(X,Z) :- t(X,Y), e(Y,Z).",
		fact(0, "e", num(1), num(2)),
		fact(8, "e", num(2), num(3)),
		syntax.Rule{
			Head: atom("t", vari("X"), vari("Y")),
			Body: []syntax.Part{pos(atom("e", vari("X"), vari("Y")))},
			At:   16,
		},
		syntax.Rule{
			Head: atom("t", vari("X"), vari("Z")),
			Body: []syntax.Part{pos(atom("t", vari("X"), vari("Y"))), pos(atom("e", vari("Y"), vari("Z")))},
			At:   34,
		})
}

// P14.1: a program may be empty.
func TestEmptyPrograms(t *testing.T) {
	for _, s := range []string{"", " \n", "# p(1)."} {
		wantProgram(t, s, syntax.Program{})
	}
}

// P14.1: declarations, anywhere between rules, with the place of their @.
func TestDeclarations(t *testing.T) {
	wantProgram(t, "@min d.", syntax.Program{Decls: []syntax.Decl{{Pred: "d"}}})
	wantProgram(t, " @ max d . p(1). @min max.@max min.", syntax.Program{
		Decls: []syntax.Decl{
			{Pred: "d", Max: true, At: 1},
			{Pred: "max", At: 17},
			{Pred: "min", Max: true, At: 26},
		},
		Rules: []syntax.Rule{fact(11, "p", num(1))},
	})
	wantSyntax(t, "@|", "@|.", "@|sum p.", "@|count p.", "@|not p.", "@|Min p.", `@|"min" p.`, "@|1 p.", "@|minp.", "@|@min p.",
		"@min|", "@min|.", "@min |not.", "@min |P.", `@max |"p".`, "@max |1.", "@max |@.", "@min p|", "@min p|(X).", "@min p |q.",
		"@min p|,q.", "@min p.|.", "min |p.", "|-@min p.")
}

// P14.1: the terms of heads and atoms.
func TestTerms(t *testing.T) {
	wantRules(t, `p(X,a,"a b",7,-7,- 7).`, fact(0, "p", vari("X"), sym("a"), sym("a b"), num(7), num(-7), num(-7)))
	wantRules(t, `p("a","",a1_B,"X","not","-7").`, fact(0, "p", sym("a"), sym(""), sym("a1_B"), sym("X"), sym("not"), sym("-7")))
	wantRules(t, `p("(",")",",",".","<").`, fact(0, "p", sym("("), sym(")"), sym(","), sym("."), sym("<")))
	wantRules(t, "#c\np\t(\nX #,Y\n)\r.", fact(3, "p", vari("X")))
	wantRules(t, "min(1).count(nott).", fact(0, "min", num(1)), fact(7, "count", sym("nott")))
	wantSyntax(t, "p(|).", "p(|", "p(|,1).", "p(1|", "p(1,|).", "p(1,|", "p(1|:-).", "p(1 |2).", "p(X |Y).",
		"p(|(1)).", "p(q|(1)).", "p(X|+1).", "p(1|-1).", "p(|not).", "p(a,|not).", "p(|+1).", "p(|*).", "p(|=).", "p(X|=1).", "p(X|:=1).")
}

// P14.1: the bounds of numbers, which the lexer's bounds exceed by one.
func TestNumbers(t *testing.T) {
	wantRules(t, "p(0,-0,007,-007).", fact(0, "p", num(0), num(0), num(7), num(-7)))
	wantRules(t, "p(9223372036854775807,-9223372036854775807,-9223372036854775808).",
		fact(0, "p", num(math.MaxInt64), num(-math.MaxInt64), num(math.MinInt64)))
	wantPart(t, "X := 9223372036854775807 - -9223372036854775808",
		let("X", do(arith.Sub, leaf(num(math.MaxInt64)), leaf(num(math.MinInt64)))))
	wantPart(t, "9223372036854775807 > -9223372036854775808", compare(column.Gt, num(math.MaxInt64), num(math.MinInt64)))
	wantSyntax(t, "p(|9223372036854775808).", "p(1,|9223372036854775808).", "p(-|9223372036854775809).",
		"p(X) :- |9223372036854775808 = X.", "p(X) :- X = |9223372036854775808.",
		"p(X) :- X := |9223372036854775808.", "p(X) :- X := Y - |9223372036854775808.", "p(X) :- X := Y + |9223372036854775808.")
}

// P14.2: a minus sign that starts a number is a fault itself if no Int follows,
// but between two units it is an operator.
func TestMinus(t *testing.T) {
	wantPart(t, "X := Y--1", let("X", do(arith.Sub, leaf(vari("Y")), leaf(num(-1)))))
	wantPart(t, "X:=-1-1", let("X", do(arith.Sub, leaf(num(-1)), leaf(num(1)))))
	wantPart(t, "X := 1 -1", let("X", do(arith.Sub, leaf(num(1)), leaf(num(1)))))
	wantSyntax(t, "p(|-).", "p(|-", "p(|--1).", "p(|-X).", "p(|-a).", "p(|-(1)).", "p(1,|-).", `p(|-"1").`,
		"p(X) :- |-.", "p(X) :- |-X = 1.", "p(X) :- X = |-.", "p(X) :- X = |-Y.",
		"p(X) :- X := |-.", "p(X) :- X := |-Y.", "p(X) :- X := |-(1).", "p(X) :- X := |--1.", "p(X) :- X := 1 + |-Y.", "p(X) :- X := 1 - |-Y.",
		"p(X) :- X := (|-Y).", "p(X) :- X := 1 - -1 - |-Y.", "p(X) :- X := 1 - |.", "p(X) :- X := 1 - |a.")
}

// P14.1: the aggregates, as the last term of a head.
func TestAggregates(t *testing.T) {
	for word, agg := range map[string]group.Agg{"count": group.Count, "sum": group.Sum, "min": group.Min, "max": group.Max} {
		wantRules(t, "p("+word+"<X>).", syntax.Rule{Head: atom("p", vari("X")), Agg: agg})
		wantRules(t, " p(a,Y,"+word+" < X > ) :- q(X).", syntax.Rule{
			Head: atom("p", sym("a"), vari("Y"), vari("X")),
			Agg:  agg,
			Body: []syntax.Part{pos(atom("q", vari("X")))},
			At:   1,
		})
		wantRules(t, "p("+word+").", fact(0, "p", sym(word)))
		wantRules(t, "p("+word+",1,"+word+").", fact(0, "p", sym(word), num(1), sym(word)))
		wantRules(t, "p("+word+","+word+"<X>).", syntax.Rule{Head: atom("p", sym(word), vari("X")), Agg: agg})
		wantRules(t, word+"("+word+"<X>).", syntax.Rule{Head: atom(word, vari("X")), Agg: agg})
		wantPart(t, "q("+word+")", pos(atom("q", sym(word))))
		wantPart(t, word+"("+word+")", pos(atom(word, sym(word))))
		wantPart(t, word+" < X", compare(column.Lt, sym(word), vari("X")))
		wantSyntax(t, "p("+word+"<|).", "p("+word+"<|1>).", "p("+word+"<|a>).", `p(`+word+`<|"X">).`, "p("+word+"<|>).", "p("+word+"<|",
			"p("+word+"<X|).", "p("+word+"<X|", "p("+word+"<X|,Y>).", "p("+word+"<X|>=).", "p("+word+"|<=X).", "p("+word+"|>X).",
			"p("+word+"<X>|,Y).", "p("+word+"<X>|,"+word+"<Y>).", "p("+word+"<X>|.", "p("+word+"<X>|", "p("+word+"<X>|>).",
			"p("+word+"|(X)).", "p("+word+" |X).",
			"p(X) :- q("+word+"|<X>).", "p(X) :- not q("+word+"|<X>).", "p(X) :- X := |"+word+".", "p(1,"+word+"<X>|,2).")
	}
	wantSyntax(t, "p(avg|<X>).", "p(X|<Y>).", `p("sum"|<X>).`, `p(""|<X>).`, "p(1|<X>).", "p(sumx|<X>).", "p(|not<X>).")
}

// P14.1: which forms parts have, and how they start.
func TestParts(t *testing.T) {
	wantPart(t, "q(a)", pos(atom("q", sym("a"))))
	wantPart(t, "q(-1,X,Y)", pos(atom("q", num(-1), vari("X"), vari("Y"))))
	wantPart(t, "not q(X)", neg(atom("q", vari("X"))))
	wantPart(t, "not min(X)", neg(atom("min", vari("X"))))
	wantPart(t, "nott(X)", pos(atom("nott", vari("X"))))
	wantPart(t, "X := Y", let("X", leaf(vari("Y"))))
	wantPart(t, "a != X", compare(column.Ne, sym("a"), vari("X")))
	wantPart(t, `"not" = "a"`, compare(column.Eq, sym("not"), sym("a")))
	wantPart(t, `"q" = X`, compare(column.Eq, sym("q"), vari("X")))
	wantPart(t, "-1 <= 2", compare(column.Le, num(-1), num(2)))
	wantPart(t, "X = -1", compare(column.Eq, vari("X"), num(-1)))
	for o, sign := range []string{"=", "!=", "<", "<=", ">", ">="} {
		wantPart(t, "X"+sign+"Y", compare(column.Op(o), vari("X"), vari("Y")))
	}
	wantRules(t, "p(X):-X=1,not q(X),X:=1,q(X).", syntax.Rule{
		Head: atom("p", vari("X")),
		Body: []syntax.Part{
			compare(column.Eq, vari("X"), num(1)), neg(atom("q", vari("X"))), let("X", leaf(num(1))), pos(atom("q", vari("X"))),
		},
	})
}

// P14.2: the first token that the grammar doesn't allow in a rule.
func TestSyntaxOfRules(t *testing.T) {
	wantSyntax(t, "|not(1).", "|P(1).", `|"p"(1).`, "|1.", "|.", "|:- q(1).", "|(1).", "|,", "|-1.",
		"p|", "p|.", "p|,", "p |q(1).", "p|<X>.", "p(1)|", "p(1)|)", "p(1)|,q(1).", "p(1) |q(1).", "p(1)|:=q(1).", "p(1)|@min p.",
		"p(1) :-|", "p(1) :-|.", "p(1) :- |,", "p(1) :- |:- q(1).", "p(1) :- |(q(1)).", "p(1) :- |@.", "p(1) :- |= X.", "p(1) :- |* X.",
		"p(1) :- q(1)|", "p(1) :- q(1)|)", "p(1) :- q(1),|", "p(1) :- q(1),|.", "p(1) :- q(1) |r(1).", "p(1) :- q(1)|= X.", "p(1) :- q(1)|:- q(1).",
		"p(1) :- q|", "p(1) :- q|.", "p(1) :- q |q(1).", "p(1) :- q|:=1.", "p(1) :- q|, r.", "p(1) :- q(|).", "p(1) :- q(1|", "p(1) :- q(1,|).",
		"p(1) :- not|", "p(1) :- not|(1).", "p(1) :- not |not q(1).", "p(1) :- not |X.", `p(1) :- not |"q"(1).`, "p(1) :- not |1.", "p(1) :- not|= X.",
		"p(1) :- not q|", "p(1) :- not q|= X.", "p(1) :- not q|.", "p(1) :- not q(|).", "p(1) :- not q(|not).", "p(1) :- not q(1|.",
		"p(1) :- X|", "p(1) :- X|.", "p(1) :- X|(1).", "p(1) :- X|,", "p(1) :- X |Y.", "p(1) :- X|+ 1 = Y.", `p(1) :- "q"|(1).`, "p(1) :- 1|:= 2.", "p(1) :- 1|.",
		"p(1) :- X = |", "p(1) :- X = |.", "p(1) :- X = |not.", "p(1) :- X = |not q(1).", "p(1) :- X = Y|= Z.", "p(1) :- X = Y|+ 1.", "p(1) :- X = q|(1).",
		"p(1) :- X = |= Y.", "p(1) :- X <= |= Y.", "p(1) :- X = |(Y).", "p(1) :- X = |-.",
		"p(1). q|", "p(1). |not q(1).", "p(1).|.")
}

// P14.1: a Str stands for no sign and no word of the grammar.
func TestStringsAreNoSigns(t *testing.T) {
	wantSyntax(t, `|"@"min p.`, `@|"min"p.`, `@min p|"."`, `p|"("1).`, `p(1|")".`, `p(1|","2).`, `p(1)|"."`, `p(1)|":-"q(1).`,
		`p("a"|`, `p(sum|"<"X>).`, `p(sum<X|">").`, `p(sum<X>|")".`, `p("-"|1).`,
		`p(1) :- "not"|q(1).`, `p(1) :- q|"("1).`, `p(1) :- X|":="1.`, `p(1) :- X|"="1.`, `p(1) :- X|"<"1.`,
		`p(1) :- X := |"("1).`, `p(1) :- X := |"-"1.`, `p(1) :- X := 1|"-"1.`, `p(1) :- X := 1|"*"1.`, `p(1) :- X := (1|")".`)
}

// P14.2: the first token that the grammar doesn't allow in an expression.
func TestSyntaxOfExpressions(t *testing.T) {
	head := "p(1) :- X := "
	for _, marked := range []string{
		"|", "|.", "|,", "|a.", `|"a".`, "|not.", "|+1.", "|*.", "|).", "(|).", "|= 1.", "|:= 1.", "|q(X).",
		"Y|", "Y|)", "Y |Z.", "Y|(1).", "Y |1.", "Y|= 1.", "Y|< 1.", "Y|:= 1.", "Y |a.",
		"Y + |", "Y + |.", "Y + |+ 1.", "Y + |a.", "Y * |* 1.", "Y * |.", "Y / |).", "Y % |%", "Y - |*",
		"(|", "(|).", "(Y|", "(Y|.", "(Y|,", "(Y + |).", "(Y)|)", "(Y)|(Z).", "(Y) |Z.", "((Y)|.", "(Y) * |.", "(|a).", "(Y|= 1).",
	} {
		wantFault(t, fault.Syntax, head+marked)
	}
}

// P14.1: operators are left-associative, and * / % bind closer than + and -.
func TestExpressions(t *testing.T) {
	a, b, c, d := leaf(vari("A")), leaf(vari("B")), leaf(num(3)), leaf(num(-4))
	for text, want := range map[string]syntax.Expr{
		"A":                 a,
		"-4":                d,
		"(A)":               a,
		"((3))":             c,
		"A+B":               do(arith.Add, a, b),
		"A-B":               do(arith.Sub, a, b),
		"A*B":               do(arith.Mul, a, b),
		"A/B":               do(arith.Div, a, b),
		"A%B":               do(arith.Mod, a, b),
		"A - B - 3":         do(arith.Sub, do(arith.Sub, a, b), c),
		"A - B + 3 - -4":    do(arith.Sub, do(arith.Add, do(arith.Sub, a, b), c), d),
		"A - (B - 3)":       do(arith.Sub, a, do(arith.Sub, b, c)),
		"A / B * 3 % -4":    do(arith.Mod, do(arith.Mul, do(arith.Div, a, b), c), d),
		"A / (B * 3)":       do(arith.Div, a, do(arith.Mul, b, c)),
		"A + B * 3":         do(arith.Add, a, do(arith.Mul, b, c)),
		"A * B + 3":         do(arith.Add, do(arith.Mul, a, b), c),
		"A * B - 3 / -4":    do(arith.Sub, do(arith.Mul, a, b), do(arith.Div, c, d)),
		"A * (B - 3) / -4":  do(arith.Div, do(arith.Mul, a, do(arith.Sub, b, c)), d),
		"(A + B) * (3 - A)": do(arith.Mul, do(arith.Add, a, b), do(arith.Sub, c, a)),
		"A + (B + 3) + -4":  do(arith.Add, do(arith.Add, a, do(arith.Add, b, c)), d),
		"A % B - -4":        do(arith.Sub, do(arith.Mod, a, b), d),
		"(A - B) - 3 + B":   do(arith.Add, do(arith.Sub, do(arith.Sub, a, b), c), b),
	} {
		wantPart(t, "X := "+text, let("X", want))
	}
}

// P14.1: an expression may be as long as a text.
func TestLongExpression(t *testing.T) {
	text := "p(X) :- X := Y" + strings.Repeat("-Y", 9900) + "."
	p, err := parse.Program(text)
	if err != nil {
		t.Fatal(err)
	}
	count := 0
	for x := p.Rules[0].Body[0].Expr; len(x.Kids) == 2; x = x.Kids[0] {
		count++
	}
	if count != 9900 {
		t.Errorf("%d operations", count)
	}
}

// P14.2: an expression has at most MaxDepth open parentheses.
func TestDeep(t *testing.T) {
	open := strings.Repeat("(", api.MaxDepth)
	shut := strings.Repeat(")", api.MaxDepth)
	full := open + "Y" + shut
	head := "p(X) :- X := "
	wantPart(t, "X := "+full, let("X", leaf(vari("Y"))))
	wantOK(t, head+full+" + "+full+" * "+full+", X := "+full+". "+head+full+".")
	wantOK(t, head+open+"Y + 1"+shut+".")
	wantFault(t, fault.Deep, head+open+"|(Y)"+shut+".")
	wantFault(t, fault.Deep, head+open+"|(")
	wantFault(t, fault.Deep, head+open+"|((((")
	wantFault(t, fault.Deep, head+open+"|()")
	wantFault(t, fault.Deep, head+open+"1 + |(Y")
	wantFault(t, fault.Deep, head+full+" - "+open+"1 * |(Y")
	wantFault(t, fault.Deep, head+full+", Y := "+open+"|(Y")
	wantFault(t, fault.Deep, head+open[1:]+"(Y) * (1 - |(Y")
	wantOK(t, head+open[1:]+"(Y) * (1 - Y)"+shut[1:]+".")
	wantSyntax(t, head+open+"Y|(Y)", head+open+"|)", head+open+"|a", head+open+"Y"+shut+"|)", head+open+"|*", head+open+"|")
}

// P14.2: an atom and a head have at most MaxArity terms.
func TestManyTerms(t *testing.T) {
	six := repeat("1", api.MaxArity)
	for _, before := range []string{"", "p(1) :- ", "p(1) :- not ", "p(1) :- q(1), "} {
		wantOK(t, before+"p("+six+").")
		for _, term := range []string{"X", "a", `"a"`, "1", "-1", "- 1", "a(", "X+", "9223372036854775807", "sum", "count<", "min<X>", "max <= 1"} {
			wantFault(t, fault.Many, before+"p("+six+",|"+term+").")
			wantFault(t, fault.Many, before+"p("+six+", |"+term)
		}
		for _, token := range []string{")", ",", "-", "-X", "--1", "not", "(", "9223372036854775808", "+", ".", "", ":-", "@"} {
			wantFault(t, fault.Syntax, before+"p("+six+", |"+token)
		}
		wantFault(t, fault.Syntax, before+"p("+six+"|(")
	}
	wantOK(t, "p("+repeat("1", api.MaxArity-1)+",sum<X>).")
	wantOK(t, "p("+six+") :- q("+six+"), not q("+six+").")
	wantSyntax(t, "p("+six+"|<X>).", "p("+repeat("1", api.MaxArity-1)+",sum<X>|,Y).", "p(|not,"+six+").")
}

// P14.2: a body has at most MaxLits parts.
func TestManyParts(t *testing.T) {
	full := "p(X) :- " + repeat("q(X)", api.MaxLits)
	wantOK(t, full+".")
	wantOK(t, "p(X) :- "+repeat("X = 1", 4)+","+repeat("not q(X)", 4)+","+repeat("X := 1", 4)+". "+full+".")
	for _, part := range []string{"q(X)", "not q(X)", "X := 1", "X = 1", "a = X", `"a" = X`, "1 = X", "-1 = X", "not", "not 1", "X", "X.", "q", "q()", `"a"`, "1 1", "X := -", "X := ("} {
		wantFault(t, fault.Many, full+",|"+part+".")
		wantFault(t, fault.Many, full+", |"+part)
	}
	for _, token := range []string{".", ",", "-", "-X", "(", "9223372036854775808", "", ":-", ":=", "=", "@"} {
		wantFault(t, fault.Syntax, full+", |"+token)
	}
	wantFault(t, fault.Many, full+",|q("+repeat("X", 7)+").")
	wantFault(t, fault.Many, "p(X) :- "+repeat("q(X)", api.MaxLits-1)+", q("+repeat("X", 6)+",|X), q(X), q(X).")
}

// P14.2: a program has at most MaxRules rules and declarations.
func TestManyRules(t *testing.T) {
	for _, full := range []string{
		strings.Repeat("p(1).", api.MaxRules),
		strings.Repeat("@min p.", api.MaxRules),
		strings.Repeat("@min p. p(1).", api.MaxRules/2),
	} {
		wantOK(t, full+" # p(1).")
		for _, next := range []string{"p(1).", "@min p.", "@max p.", "@", "@.", "p", "p.", "p(", "min(1).", "p(" + variables(0, 6) + ") :- q(" + variables(6, 6) + "), q(" + variables(12, 6) + ")."} {
			wantFault(t, fault.Many, full+"\n|"+next)
		}
		for _, next := range []string{"not(1).", "P(1).", ".", "1", `"p"(1).`, ":-", "-1", "("} {
			wantFault(t, fault.Syntax, full+"\n|"+next)
		}
	}
	wantFault(t, fault.Syntax, strings.Repeat("p(1).", api.MaxRules-1)+"p(|).")
	wantFault(t, fault.Syntax, strings.Repeat("p(1).", api.MaxRules-1)+"p(1) |p(1).")
}

// P14.2: a rule has at most MaxVars different variables; those beyond are found
// when it is complete, at its word.
func TestManyVariables(t *testing.T) {
	six, twelve := variables(0, 6), "q("+variables(6, 6)+")"
	four, five := "q("+variables(12, 4)+")", "q("+variables(12, 5)+")"
	wantOK(t, "p("+six+") :- "+twelve+", "+four+".")
	wantOK(t, "p("+six+") :- "+twelve+", not "+four+", "+four+", V1 = V15, V15 := V0 * V0.")
	wantOK(t, "p("+six+") :- "+twelve+", "+four+". p(X) :- q(X).")
	wantFault(t, fault.Many, "|p("+six+") :- "+twelve+", "+five+".")
	wantFault(t, fault.Many, "p(1). # c\n |p ("+six+") :- "+twelve+", not "+five+". p(1).")
	wantFault(t, fault.Many, "|p("+six+") :- "+twelve+", "+four+", X = V0.")
	wantFault(t, fault.Many, "|p("+six+") :- "+twelve+", "+four+", X := V0.")
	wantFault(t, fault.Many, "|p("+six+") :- "+twelve+", "+four+", V0 := 1 * (V1 - X).")
	wantFault(t, fault.Many, "|p("+variables(0, 5)+",sum<X>) :- "+twelve+", "+four+", q(V5).")
	wantFault(t, fault.Many, "|p("+six+") :- "+twelve+", "+five+". p().")
	wantFault(t, fault.Many, "|p("+six+") :- "+twelve+", "+five+".not")
	wantFault(t, fault.Syntax, "p("+six+") :- "+twelve+", "+five+"|")
	wantFault(t, fault.Syntax, "p("+six+") :- "+twelve+", "+five+"|)")
	wantFault(t, fault.Syntax, "p("+six+") :- "+twelve+", "+five+", |.")
	wantFault(t, fault.Many, "p("+six+") :- "+twelve+", "+five+", q("+six+",|1).")
	wantFault(t, fault.Deep, "p("+six+") :- "+twelve+", "+five+", X := "+strings.Repeat("(", api.MaxDepth)+"|(")
}

// P14.2: a text has at most MaxText bytes, whatever they are.
func TestManyBytes(t *testing.T) {
	full := "p(1)." + strings.Repeat(" ", api.MaxText-5)
	wantRules(t, full, fact(0, "p", num(1)))
	wantFault(t, fault.Many, "|"+full+" ")
	wantFault(t, fault.Many, "|;"+full)
	wantFault(t, fault.Many, "|"+strings.Repeat("#", api.MaxText+1))
	wantFault(t, fault.Many, "|"+strings.Repeat("p(1).", api.MaxText))
	wantProgram(t, strings.Repeat("#", api.MaxText), syntax.Program{})
	wantFault(t, fault.Syntax, "p(1"+strings.Repeat(" ", api.MaxText-3)+"|")
}

// P14.2: all faults of the lexer come first, wherever they are.
func TestFaultsOfTheLexer(t *testing.T) {
	wantFault(t, fault.Syntax, "p(1). |;")
	wantFault(t, fault.Syntax, "p() :- not. |;")
	wantFault(t, fault.Syntax, `p(). "a|`)
	wantFault(t, fault.Syntax, "not(1). |9223372036854775809")
	wantFault(t, fault.Syntax, "p(-|9223372036854775809).")
	wantFault(t, fault.Many, "p() |"+strings.Repeat("a", api.MaxName+1))
	wantFault(t, fault.Many, "p(1,2,3,4,5,6,7) |"+strings.Repeat("A", api.MaxName+1))
	wantFault(t, fault.Many, `p() |"`+strings.Repeat("a", api.MaxName+1)+`"`)
	wantFault(t, fault.Syntax, "p(X) :- X := "+strings.Repeat("(", 21)+" |_")
}

// P14.2: of several faults the leftmost one is returned.
func TestFirstFault(t *testing.T) {
	wantSyntax(t, "p(|) :- not. p(.", "p(1) :- |. p(1,2,3,4,5,6,7).", "p(1)|) p(1,2,3,4,5,6,7).")
	wantFault(t, fault.Many, "p(1,2,3,4,5,6,|7 :- .")
	wantFault(t, fault.Deep, "p(1) :- X := "+strings.Repeat("(", api.MaxDepth)+"|(.")
}

// P14.3: Atom returns the atom that is all of the text.
func TestAtom(t *testing.T) {
	for s, want := range map[string]syntax.Atom{
		"p(X, a)":                  atom("p", vari("X"), sym("a")),
		" # c\n p ( 1 ) # .":       atom("p", num(1)),
		`min(max,"",-1,A,"A",sum)`: atom("min", sym("max"), sym(""), num(-1), vari("A"), sym("A"), sym("sum")),
		"p(-9223372036854775808)":  atom("p", num(math.MinInt64)),
		"p(X,X)":                   atom("p", vari("X"), vari("X")),
	} {
		got, err := parse.Atom(s)
		if err != nil || !reflect.DeepEqual(got, want) {
			t.Errorf("Atom(%q) = %v, %v, want %v", s, got, err, want)
		}
	}
	full := "p(1)" + strings.Repeat(" ", api.MaxText-4)
	if got, err := parse.Atom(full); err != nil || got.String() != "p(1)" {
		t.Errorf("Atom of %d bytes = %v, %v", len(full), got, err)
	}
}

// P14.3: Atom returns the same faults as Program, and one behind the atom.
func TestAtomFaults(t *testing.T) {
	wantAtomFault := func(tag fault.Tag, marked string) {
		t.Helper()
		before, after, _ := strings.Cut(marked, "|")
		got, err := parse.Atom(before + after)
		if !reflect.DeepEqual(got, syntax.Atom{}) || fault.Of(err) != tag || fault.At(err) != len(before) || fault.Depth(err) != 1 {
			t.Errorf("Atom(%q without |) = %v, %v, want %v at %d", marked, got, err, tag, len(before))
		}
	}
	for _, marked := range []string{
		"|", " |", "|not(1)", "|not p(1)", "|P(1)", `|"p"(1)`, "|1", "|@min p.", "|.", "|-", "|(",
		"p|", "p|.", "p|<", "p |q(1)", "p(|)", "p(|", "p(1|", "p(1,|)", "p(1 |1)", "p(|not)", "p(|-)", "p(|-X)", "p(1|-1)",
		"p(|9223372036854775808)", "p(sum|<X>)", "p(count|<X>)", "p(X|<Y>)",
		"p(1)|.", "p(1)|,", "p(1)|)", "p(1) |q(1)", "p(1)|:- q(1)", "p(1)|=1", "p(1) |1", "p(1)#\n|X", "p(X)|..",
		"p(1,2,3,4,5,6,|)", "p(1,2,3,4,5,6,|-)", "p(1). |;", "p() |_",
	} {
		wantAtomFault(fault.Syntax, marked)
	}
	wantAtomFault(fault.Many, "p(1,2,3,4,5,6,|7)")
	wantAtomFault(fault.Many, "p(1,2,3,4,5,6,|sum<")
	wantAtomFault(fault.Many, "|p(1)"+strings.Repeat(" ", api.MaxText-3))
	wantAtomFault(fault.Many, "|;"+strings.Repeat(" ", api.MaxText))
	wantAtomFault(fault.Many, "p() |"+strings.Repeat("a", api.MaxName+1))
}

// Rule 3: no two results share memory.
func TestResultsAreSeparate(t *testing.T) {
	s := "@min p. p(X,1) :- q(X), X := Y + 1."
	want, _ := parse.Program(s)
	p, _ := parse.Program(s)
	p.Decls[0].Pred = "changed"
	p.Rules[0].Head.Args[0].Text = "Changed"
	p.Rules[0].Body[1].Expr.Kids[0].Term.Text = "Changed"
	p.Rules[0].Body[0].Atom.Args[0].Text = "Changed"
	if got, err := parse.Program(s); err != nil || !reflect.DeepEqual(got, want) {
		t.Errorf("Program(%q) = %v, %v after changes of another result", s, got, err)
	}
}

// P14.3: Program of a program's String returns the same program.
func TestStringIsReadBack(t *testing.T) {
	r := rand.New(rand.NewSource(1))
	for range 3000 {
		want := randomProgram(r)
		s := want.String()
		got, err := parse.Program(s)
		if err != nil {
			t.Fatalf("Program(%q): %v", s, err)
		}
		again, err := parse.Program(got.String())
		if err != nil || !reflect.DeepEqual(withoutAt(*again), withoutAt(*got)) {
			t.Fatalf("Program(%q) = %v, %v", got, again, err)
		}
		if !reflect.DeepEqual(withoutAt(*got), want) {
			t.Fatalf("Program(%q) = %v", s, got)
		}
	}
}

// withoutAt returns a copy of the program in which every At is 0.
func withoutAt(p syntax.Program) syntax.Program {
	p.Decls, p.Rules = slices.Clone(p.Decls), slices.Clone(p.Rules)
	for i := range p.Decls {
		p.Decls[i].At = 0
	}
	for i := range p.Rules {
		p.Rules[i].At = 0
	}
	return p
}

func randomProgram(r *rand.Rand) syntax.Program {
	var p syntax.Program
	for range r.Intn(3) {
		p.Decls = append(p.Decls, syntax.Decl{Pred: randomWord(r), Max: r.Intn(2) == 0})
	}
	for range r.Intn(4) {
		p.Rules = append(p.Rules, randomRule(r))
	}
	return p
}

func randomRule(r *rand.Rand) syntax.Rule {
	rule := syntax.Rule{Head: randomAtom(r)}
	if last := len(rule.Head.Args) - 1; rule.Head.Args[last].Kind == syntax.Var {
		rule.Agg = group.Agg(r.Intn(5))
	}
	for range r.Intn(4) {
		rule.Body = append(rule.Body, randomPart(r))
	}
	return rule
}

func randomPart(r *rand.Rand) syntax.Part {
	switch r.Intn(4) {
	case 0:
		return pos(randomAtom(r))
	case 1:
		return neg(randomAtom(r))
	case 2:
		return compare(column.Op(r.Intn(6)), randomTerm(r), randomTerm(r))
	}
	return let(randomVar(r), randomExpr(r, 4))
}

func randomAtom(r *rand.Rand) syntax.Atom {
	a := atom(randomWord(r))
	for range 1 + r.Intn(4) {
		a.Args = append(a.Args, randomTerm(r))
	}
	return a
}

func randomExpr(r *rand.Rand, depth int) syntax.Expr {
	if depth > 0 && r.Intn(3) > 0 {
		return do(arith.Op(r.Intn(5)), randomExpr(r, depth-1), randomExpr(r, depth-1))
	}
	if r.Intn(2) == 0 {
		return leaf(vari(randomVar(r)))
	}
	return leaf(randomNumber(r))
}

func randomTerm(r *rand.Rand) syntax.Term {
	switch r.Intn(4) {
	case 0:
		return vari(randomVar(r))
	case 1:
		return randomNumber(r)
	case 2:
		return sym(randomWord(r))
	}
	list := []string{"", "not", "A", "New Town", "a\n\"\\", "\x7f\xff", "é", "1", "-1", "#", "("}
	return sym(list[r.Intn(len(list))])
}

func randomNumber(r *rand.Rand) syntax.Term {
	list := []int64{0, 1, -1, 7, -40, math.MaxInt64, math.MinInt64, math.MinInt64 + 1}
	return num(list[r.Intn(len(list))])
}

func randomWord(r *rand.Rand) string {
	list := []string{"p", "q", "min", "max", "count", "sum", "nott", "no", "aB_9"}
	return list[r.Intn(len(list))]
}

func randomVar(r *rand.Rand) string {
	return []string{"X", "Y", "Z", "Not", "A_1"}[r.Intn(5)]
}
