package sig_test

import (
	"math/rand"
	"strconv"
	"testing"

	"ergo/arith"
	"ergo/column"
	"ergo/fault"
	"ergo/group"
	"ergo/sig"
	"ergo/syntax"
)

// needs is what rules require, as it stands in the document: which places have
// the same type, and which have one. Places are texts.
type needs struct {
	same  [][2]string
	types map[string]map[sig.Type]int
}

func position(pred string, i int) string     { return pred + "/" + strconv.Itoa(i) }
func variable(rule int, name string) string  { return strconv.Itoa(rule) + ":" + name }
func (n *needs) equal(a, b string)           { n.same = append(n.same, [2]string{a, b}) }
func (n *needs) known(a string, is sig.Type) { n.put(a, is) }

// put adds a type to those of the place, and reports whether it is new.
func (n *needs) put(place string, is sig.Type) bool {
	if n.types[place] == nil {
		n.types[place] = map[sig.Type]int{}
	}
	before := len(n.types[place])
	n.types[place][is] = 1
	return len(n.types[place]) > before
}

// term returns the term's place, and says of a constant which type it has.
func (n *needs) term(rule int, t syntax.Term, at string) string {
	switch t.Kind {
	case syntax.Int:
		n.known("constant "+at, sig.Int)
	case syntax.Sym:
		n.known("constant "+at, sig.Sym)
	default:
		return variable(rule, t.Text)
	}
	return "constant " + at
}

func (n *needs) rule(number int, r syntax.Rule) {
	at := strconv.Itoa(number)
	for i, t := range r.Head.Args {
		if r.Agg == group.None || i < len(r.Head.Args)-1 {
			n.equal(position(r.Head.Pred, i), n.term(number, t, at+"h"+strconv.Itoa(i)))
			continue
		}
		n.known(position(r.Head.Pred, i), sig.Int)
		if r.Agg != group.Count {
			n.known(variable(number, t.Text), sig.Int)
		}
	}
	for k, p := range r.Body {
		at := at + "b" + strconv.Itoa(k) + "t"
		switch p.Form {
		case syntax.Pos, syntax.Neg:
			for i, t := range p.Atom.Args {
				n.equal(position(p.Atom.Pred, i), n.term(number, t, at+strconv.Itoa(i)))
			}
		case syntax.Cmp:
			a, b := n.term(number, p.A, at+"a"), n.term(number, p.B, at+"b")
			n.equal(a, b)
			if p.Op >= column.Lt {
				n.known(a, sig.Int)
				n.known(b, sig.Int)
			}
		case syntax.Let:
			for _, name := range append(p.Expr.Vars(), p.Name) {
				n.known(variable(number, name), sig.Int)
			}
		}
	}
}

// spread carries types from place to place until nothing changes, and reports
// whether no place has two of them.
func (n *needs) spread() bool {
	for changed := true; changed; {
		changed = false
		for _, pair := range n.same {
			for _, is := range []sig.Type{sig.Int, sig.Sym} {
				if n.types[pair[0]][is] != 0 && n.put(pair[1], is) || n.types[pair[1]][is] != 0 && n.put(pair[0], is) {
					changed = true
				}
			}
		}
	}
	for _, types := range n.types {
		if len(types) > 1 {
			return false
		}
	}
	return true
}

func (n *needs) of(place string) sig.Type {
	for is := range n.types[place] {
		return is
	}
	return sig.Any
}

// expect returns what the first rules of a program require, the number of rules,
// and true; or the first rule at which that is a contradiction, and false.
func expect(p *syntax.Program, arities map[string]int) (*needs, int, bool) {
	n := &needs{types: map[string]map[sig.Type]int{}}
	for _, decl := range p.Decls {
		n.known(position(decl.Pred, arities[decl.Pred]-1), sig.Int)
	}
	for number, rule := range p.Rules {
		n.rule(number, rule)
		if !n.spread() {
			return n, number, false
		}
	}
	return n, len(p.Rules), true
}

// P15.2, P15.3: against the definition, for random programs.
func TestRandomPrograms(t *testing.T) {
	r := rand.New(rand.NewSource(1))
	faults := 0
	for range 3000 {
		arities := map[string]int{"p": 1 + r.Intn(3), "q": 1 + r.Intn(3), "r": 1 + r.Intn(3), "s": 2}
		p := randomProgram(r, arities)
		want, at, ok := expect(p, arities)
		s, err := sig.Check(p)
		if !ok {
			faults++
			if s != nil || fault.Of(err) != fault.Type || fault.At(err) != at {
				t.Fatalf("%v: %v, want type at %d", p, err, at)
			}
			continue
		}
		if err != nil {
			t.Fatalf("%v: %v", p, err)
		}
		holds(t, p, s, want)
	}
	if faults < 300 || faults > 2700 {
		t.Errorf("%d faults", faults)
	}
}

// holds fails unless the types are those that are wanted.
func holds(t *testing.T, p *syntax.Program, s *sig.Sigs, want *needs) {
	t.Helper()
	for _, pred := range s.Preds() {
		types, _ := s.Types(pred)
		for i, got := range types {
			if is := want.of(position(pred, i)); got != is {
				t.Fatalf("%v: position %d of %s is %v, want %v", p, i, pred, got, is)
			}
		}
	}
	for number, rule := range p.Rules {
		for _, name := range rule.Vars() {
			if got, is := s.Var(number, name), want.of(variable(number, name)); got != is {
				t.Fatalf("%v: Var(%d, %q) = %v, want %v", p, number, name, got, is)
			}
		}
	}
}

func randomVar(r *rand.Rand) string { return string(rune('A' + r.Intn(5))) }

func randomTerm(r *rand.Rand) syntax.Term {
	switch r.Intn(12) {
	case 0:
		return syntax.Term{Kind: syntax.Int, N: 1}
	case 1:
		return syntax.Term{Kind: syntax.Sym, Text: "a"}
	}
	return syntax.Term{Kind: syntax.Var, Text: randomVar(r)}
}

func randomAtom(r *rand.Rand, arities map[string]int) syntax.Atom {
	a := syntax.Atom{Pred: []string{"p", "q", "r", "s"}[r.Intn(4)]}
	for range arities[a.Pred] {
		a.Args = append(a.Args, randomTerm(r))
	}
	return a
}

func randomPart(r *rand.Rand, arities map[string]int) syntax.Part {
	switch r.Intn(12) {
	case 0:
		return syntax.Part{Form: syntax.Cmp, Op: column.Op(r.Intn(6)), A: randomTerm(r), B: randomTerm(r)}
	case 1:
		part := syntax.Part{Form: syntax.Let, Name: randomVar(r)}
		part.Expr = syntax.Expr{Op: arith.Mul, Kids: []syntax.Expr{
			{Term: syntax.Term{Kind: syntax.Var, Text: randomVar(r)}},
			{Term: syntax.Term{Kind: syntax.Int, N: 2}},
		}}
		return part
	}
	return syntax.Part{Form: syntax.Form(r.Intn(2)), Atom: randomAtom(r, arities)}
}

func randomRule(r *rand.Rand, arities map[string]int) syntax.Rule {
	rule := syntax.Rule{Head: randomAtom(r, arities)}
	if r.Intn(8) == 0 {
		rule.Agg = group.Agg(1 + r.Intn(4))
		last := len(rule.Head.Args) - 1
		rule.Head.Args[last] = syntax.Term{Kind: syntax.Var, Text: randomVar(r)}
	}
	for range r.Intn(3) {
		rule.Body = append(rule.Body, randomPart(r, arities))
	}
	return rule
}

func randomProgram(r *rand.Rand, arities map[string]int) *syntax.Program {
	p := &syntax.Program{}
	for range r.Intn(6) {
		p.Rules = append(p.Rules, randomRule(r, arities))
	}
	if r.Intn(4) == 0 {
		p.Decls = []syntax.Decl{{Pred: "s", Max: r.Intn(2) == 0}}
	}
	return p
}
