package parse_test

import (
	"math/rand"
	"slices"
	"strings"
	"testing"

	"ergo/fault"
	"ergo/lex"
	"ergo/parse"
)

// grammarText is the grammar of P14.1, with its repetitions written out as rules of
// their own. What is no left side is a terminal: see terminal.
const grammarText = `
program =
program = program clause
clause = @ min word .
clause = @ max word .
clause = head .
clause = head :- body .
head = word ( hterms )
hterms = hterm
hterms = agg < Var >
hterms = term , hterms
hterm = term
agg = count
agg = sum
agg = min
agg = max
body = part
body = body , part
part = atom
part = not atom
part = Var := sums
part = term sign term
atom = word ( terms )
terms = term
terms = terms , term
term = Var
term = word
term = Str
term = number
sign = =
sign = !=
sign = <
sign = <=
sign = >
sign = >=
number = Int
number = minus Int
number = minus Top
sums = product
sums = sums + product
sums = sums anyminus product
anyminus = -
anyminus = minus
product = unit
product = product * unit
product = product / unit
product = product % unit
unit = Var
unit = number
unit = ( sums )
word = name
word = count
word = sum
word = min
word = max
`

// grammar has the right sides of each left side.
type grammar map[string][][]string

func makeGrammar() grammar {
	g := grammar{}
	for line := range strings.Lines(grammarText) {
		if words := strings.Fields(line); len(words) > 0 {
			g[words[0]] = append(g[words[0]], words[2:])
		}
	}
	return g
}

// terminal returns the terminal of a token. An Int that only a minus sign may
// precede is one of its own, and so is a minus sign that an Int follows, because
// no other one starts a number.
func terminal(list []lex.Token, i int) string {
	token := list[i]
	switch token.Kind {
	case lex.Name:
		if slices.Contains([]string{"not", "count", "sum", "min", "max"}, token.Text) {
			return token.Text
		}
		return "name"
	case lex.Var:
		return "Var"
	case lex.Str:
		return "Str"
	case lex.Int:
		if token.Num == lex.Top {
			return "Top"
		}
		return "Int"
	case lex.Sign:
		if token.Text == "-" && list[i+1].Kind == lex.Int {
			return "minus"
		}
		return token.Text
	}
	return "End"
}

// item is a rule of the grammar of which a part has been found: Earley's algorithm.
type item struct {
	left        string
	rule, found int
	from        int
}

// firstRefused returns the number of the first token before which start may not go on
// as the tokens do, or -1 if there is none.
func (g grammar) firstRefused(start string, list []lex.Token) int {
	sets := [][]item{g.predicted(start, 0)}
	for i := range list {
		seen := map[item]struct{}{}
		for k := 0; k < len(sets[i]); k++ {
			for _, x := range g.follow(sets, i, sets[i][k]) {
				if _, ok := seen[x]; !ok && !slices.Contains(sets[i], x) {
					seen[x] = struct{}{}
					sets[i] = append(sets[i], x)
				}
			}
		}
		if list[i].Kind == lex.End {
			if g.complete(start, sets[i]) {
				return -1
			}
			return i
		}
		next := g.shifted(sets[i], terminal(list, i))
		if len(next) == 0 {
			return i
		}
		sets = append(sets, next)
	}
	return -1
}

func (g grammar) predicted(left string, at int) []item {
	var list []item
	for k := range g[left] {
		list = append(list, item{left: left, rule: k, from: at})
	}
	return list
}

// next returns the symbol that x needs next, or "" if it needs none.
func (g grammar) next(x item) string {
	right := g[x.left][x.rule]
	if x.found == len(right) {
		return ""
	}
	return right[x.found]
}

// follow returns the items of set i that x adds.
func (g grammar) follow(sets [][]item, i int, x item) []item {
	symbol := g.next(x)
	if symbol == "" {
		return g.shifted(sets[x.from], x.left)
	}
	list := g.predicted(symbol, i)
	// The only symbol that may be empty is program, where it starts.
	if symbol == "program" && i == 0 {
		x.found++
		list = append(list, x)
	}
	return list
}

// shifted returns the items of the set that need that symbol, with it.
func (g grammar) shifted(set []item, symbol string) []item {
	var list []item
	for _, x := range set {
		if g.next(x) == symbol {
			x.found++
			list = append(list, x)
		}
	}
	return list
}

func (g grammar) complete(start string, set []item) bool {
	return slices.ContainsFunc(set, func(x item) bool { return x.left == start && x.from == 0 && g.next(x) == "" })
}

// P14.1, P14.2: for random changes of the tokens of random programs and atoms, the
// first token that the grammar doesn't allow is the one that a recognizer finds,
// which knows nothing but the grammar.
func TestAgainstTheGrammar(t *testing.T) {
	g := makeGrammar()
	r := rand.New(rand.NewSource(2))
	good, bad := 0, 0
	for range 8000 {
		program := randomProgram(r)
		s := changed(r, program.String())
		_, err := parse.Program(s)
		if compareWithGrammar(t, g, "program", s, err) {
			good++
		} else {
			bad++
		}
		s = changed(r, randomAtom(r).String())
		_, err = parse.Atom(s)
		compareWithGrammar(t, g, "atom", s, err)
	}
	if good < 1000 || bad < 1000 {
		t.Errorf("%d programs and %d others are too few", good, bad)
	}
}

// compareWithGrammar fails unless err is what the grammar finds in s. It reports
// whether s is of the grammar.
func compareWithGrammar(t *testing.T, g grammar, start, s string, err error) bool {
	t.Helper()
	list, lexErr := lex.All(s)
	if lexErr != nil {
		t.Fatalf("%q has no tokens: %v", s, lexErr)
	}
	i := g.firstRefused(start, list)
	if i < 0 {
		if err != nil {
			t.Fatalf("%s %q: %v, want none", start, s, err)
		}
		return true
	}
	if fault.Of(err) != fault.Syntax || fault.At(err) != list[i].At {
		t.Fatalf("%s %q: %v, want syntax at %d", start, s, err, list[i].At)
	}
	return false
}

// changed returns s with up to two of its tokens inserted, removed or replaced.
func changed(r *rand.Rand, s string) string {
	tokens, _ := lex.All(s)
	var texts []string
	for i, token := range tokens[:len(tokens)-1] {
		texts = append(texts, s[token.At:tokens[i+1].At])
	}
	for range r.Intn(3) {
		at := r.Intn(len(texts) + 1)
		switch r.Intn(3) {
		case 0:
			texts = slices.Insert(texts, at, randomToken(r))
		case 1:
			texts = slices.Delete(texts, at, min(at+1, len(texts)))
		case 2:
			texts = slices.Replace(texts, at, min(at+1, len(texts)), randomToken(r))
		}
	}
	return strings.Join(texts, " ")
}

func randomToken(r *rand.Rand) string {
	list := strings.Fields(":- := != <= >= ( ) , . = < > + - * / % @ ( ) , . - p q not count sum min max X Y 0 1 9223372036854775807 9223372036854775808")
	list = append(list, `"a b"`, `"sum"`, `"("`)
	return list[r.Intn(len(list))]
}
