package admit_test

import (
	"math/rand"
	"slices"
	"strconv"
	"strings"
	"testing"

	"ergo/admit"
	"ergo/group"
	"ergo/lex"
	"ergo/strata"
	"ergo/syntax"
)

// definedFault returns the number and the predicate of the fault that P19.1
// defines, or -1, and whether it is of a declaration.
func definedFault(p *syntax.Program, list []strata.Stratum) (int, string, bool) {
	declared := map[string]string{} // to min or max
	for number, d := range p.Decls {
		occurs := slices.ContainsFunc(p.Rules, func(r syntax.Rule) bool {
			preds, _ := strata.Leans(r)
			return r.Head.Pred == d.Pred || slices.Contains(preds, d.Pred)
		})
		if declared[d.Pred] != "" || !occurs {
			return number, d.Pred, true
		}
		declared[d.Pred] = d.String()[1:4]
	}
	for number, r := range p.Rules {
		at := slices.IndexFunc(list, func(s strata.Stratum) bool { return slices.Contains(s.Rules, number) })
		if !definedRule(r, list[at], declared) {
			return number, r.Head.Pred, false
		}
	}
	return -1, "", false
}

// definedRule reports whether the rule of that stratum has no fault by P19.1.
func definedRule(r syntax.Rule, home strata.Stratum, declared map[string]string) bool {
	ways := map[string]int{}
	for _, pred := range home.Preds {
		ways[declared[pred]]++
	}
	switch {
	case r.Agg != group.None && declared[r.Head.Pred] != "":
		return false
	case !home.Loops || ways[""] == len(home.Preds):
		return true
	case len(ways) > 1:
		return false
	}
	count, only := 0, -1
	for i, part := range r.Body {
		if part.Form == syntax.Pos && slices.Contains(home.Preds, part.Atom.Pred) {
			count, only = count+1, i
		}
	}
	return count == 0 || count == 1 && definedCost(r, only, declared[r.Head.Pred])
}

// definedCost reports whether the rule computes its cost from that of the part in
// the way that P19.2 requires. It goes by what the rule looks like.
func definedCost(r syntax.Rule, part int, way string) bool {
	old, last := r.Body[part].Atom.Args, r.Head.Args
	c, d := old[len(old)-1].String(), last[len(last)-1].String()
	if !isVariable(c) || tokensOf(r, c) != 2 || !isVariable(d) {
		return false
	}
	if c == d {
		return true
	}
	if tokensOf(r, d) != 2 {
		return false
	}
	for _, k := range stepsOf(r) {
		lets := map[string][]string{
			"min": {d + " := " + c + " + " + k, d + " := " + k + " + " + c},
			"max": {d + " := " + c + " - " + k},
		}
		if slices.ContainsFunc(r.Body, func(x syntax.Part) bool { return slices.Contains(lets[way], x.String()) }) {
			return true
		}
	}
	return false
}

func isVariable(text string) bool {
	return text[0] >= 'A' && text[0] <= 'Z'
}

// tokensOf returns how many tokens of the rule, as it is printed, are that variable.
func tokensOf(r syntax.Rule, name string) int {
	count := 0
	list, _ := lex.All(r.String())
	for _, token := range list {
		if token.Kind == lex.Var && token.Text == name {
			count++
		}
	}
	return count
}

// stepsOf returns what the K of P19.2 may be in the rule, as texts: of the
// numbers those that randomTerm returns.
func stepsOf(r syntax.Rule) []string {
	steps := []string{"0", "1", "2"}
	for _, name := range r.Vars() {
		for n := range 3 {
			part := name + " >= " + strconv.Itoa(n)
			if slices.ContainsFunc(r.Body, func(x syntax.Part) bool { return x.String() == part }) {
				steps = append(steps, name)
			}
		}
	}
	return steps
}

// pick returns one of the texts.
func pick(r *rand.Rand, texts ...string) string {
	return texts[r.Intn(len(texts))]
}

// mostly returns the first text, or now and then one of the others.
func mostly(r *rand.Rand, right string, wrong ...string) string {
	if r.Intn(8) > 0 {
		return right
	}
	return pick(r, wrong...)
}

// randomBody returns a body that is of the kind required for that way, or close
// to it, and the cost that it computes.
func randomBody(r *rand.Rand, way string) (body, cost string) {
	body = pick(r, "a", "a", "b", "s") + "(" + mostly(r, "X", "C", "1", "D") + "," + mostly(r, "C", "D", "0", "W") + ")"
	switch r.Intn(4) {
	case 0:
		cost = "C"
	case 1:
		cost = "D"
		body += ", D := C" + mostly(r, signs[way], " + ", " - ", " * ") + pick(r, "0", "1", "2", "-1", "C", "D", "(1 + 1)")
	default:
		cost = "D"
		left, right := mostly(r, "C", "W", "D", "1"), mostly(r, "W", "1", "-1", "C", "(W + 1)")
		if r.Intn(4) == 0 {
			left, right = right, left
		}
		body += ", e(W), " + mostly(r, "W", "X", "D", "0") + mostly(r, " >= ", " > ", " <= ", " = ") + mostly(r, "0", "1", "2", "-1", "X")
		body += ", " + mostly(r, "D", "E", "C", "W") + " := " + left + mostly(r, signs[way], " + ", " - ", " * ") + right
	}
	for range max(0, r.Intn(8)-5) {
		body += ", " + pick(r, "e(X)", "e(C)", "not e(D)", "a(X,E)", "b(D,E)", "W >= 1", "c(X,E)", "D < 3", "not f(X,X)", "C := 1")
	}
	return body, mostly(r, cost, "C", "D", "0", "X")
}

var signs = map[string]string{"min": " + ", "max": " - "}

// randomText returns a program of the predicates a to g and s.
func randomText(r *rand.Rand) string {
	way := pick(r, "min", "max")
	text := ""
	for range 1 + r.Intn(4) {
		body, cost := randomBody(r, way)
		if r.Intn(16) == 0 {
			cost = pick(r, "min", "max", "count", "sum") + "<" + pick(r, "C", "D") + ">"
		}
		text += pick(r, "a", "a", "b", "c") + "(" + mostly(r, "X", "C", "D") + "," + cost + ")"
		if r.Intn(12) > 0 {
			text += " :- " + body
		}
		text += ". "
	}
	for _, pred := range []string{"a", "b", "c", "g"} {
		likely := strings.Contains(text, pred+"(")
		for likely && r.Intn(6) > 0 || r.Intn(24) == 0 {
			text += "@" + mostly(r, way, "min", "max") + " " + pred + ". "
			likely = false
		}
	}
	return text
}

// P19.1, P19.2: random programs have the fault of the definition, or none.
func TestRandomPrograms(t *testing.T) {
	r := rand.New(rand.NewSource(1))
	const runs = 60000
	admitted, computed, ofDecls, ofRules := 0, 0, 0, 0
	for range runs {
		text := randomText(r)
		p := program(t, text)
		list, err := strata.Check(p)
		if err != nil {
			continue
		}
		at, what, ofDecl := definedFault(p, list)
		err = admit.Check(p, list)
		switch {
		case at < 0 && err == nil:
			admitted++
			if hasComputedCost(p, list) {
				computed++
			}
		case at < 0 || !isFault(err, at, what):
			t.Errorf("Check(%q): %v, want a fault at %d (%s)", text, err, at, what)
		case ofDecl:
			ofDecls++
		default:
			ofRules++
		}
	}
	if admitted < runs/6 || computed < runs/40 || ofDecls < runs/20 || ofRules < runs/6 {
		t.Errorf("%d programs are admissible, %d of them with a computed cost; %d have faults of declarations, %d of rules", admitted, computed, ofDecls, ofRules)
	}
}

// hasComputedCost reports whether a rule of a declared stratum that loops
// computes its cost by a Let from another one of the stratum.
func hasComputedCost(p *syntax.Program, list []strata.Stratum) bool {
	for _, s := range list {
		isDeclared := slices.ContainsFunc(p.Decls, func(d syntax.Decl) bool { return d.Pred == s.Preds[0] })
		for _, number := range s.Rules {
			r := p.Rules[number]
			leans := slices.ContainsFunc(r.Body, func(x syntax.Part) bool {
				return x.Form == syntax.Pos && slices.Contains(s.Preds, x.Atom.Pred)
			})
			last := r.Head.Args[len(r.Head.Args)-1].String()
			sets := slices.ContainsFunc(r.Body, func(x syntax.Part) bool { return x.Form == syntax.Let && x.Name == last })
			if isDeclared && s.Loops && leans && sets {
				return true
			}
		}
	}
	return false
}
