package sig

import (
	"ergo/api"
	"ergo/column"
	"ergo/fault"
	"ergo/group"
	"ergo/syntax"
)

// checker collects what the rules require. A place is what has a type: a
// predicate's position, a rule's variable, or a type itself, whose place is its
// own number.
type checker struct {
	classes classes
	preds   map[string][]int // the places of each predicate's positions
	vars    []scope          // by rule, as far as they are typed
}

// scope is the places of a rule's variables.
type scope map[string]int

func newChecker() *checker {
	c := &checker{preds: map[string][]int{}}
	for range Sym + 1 {
		c.classes.add()
	}
	return c
}

// addPreds gives places to the positions of all predicates, or returns the first
// fault of their arities.
func (c *checker) addPreds(rules []syntax.Rule) error {
	for number, rule := range rules {
		for _, atom := range atomsOf(rule) {
			if tag := c.addPred(atom); tag != fault.None {
				return fault.New(tag, number, atom.Pred)
			}
		}
	}
	return nil
}

// atomsOf returns the rule's head and the atoms of its body, in order.
func atomsOf(r syntax.Rule) []syntax.Atom {
	list := []syntax.Atom{r.Head}
	for _, part := range r.Body {
		if part.Form == syntax.Pos || part.Form == syntax.Neg {
			list = append(list, part.Atom)
		}
	}
	return list
}

// addPred gives places to the positions of the atom's predicate if it is new,
// and returns the tag of what is wrong, or None.
func (c *checker) addPred(a syntax.Atom) fault.Tag {
	places, ok := c.preds[a.Pred]
	switch {
	case ok && len(places) != len(a.Args):
		return fault.Arity
	case ok:
		return fault.None
	case len(c.preds) == api.MaxPreds:
		return fault.Many
	}
	for range a.Args {
		places = append(places, c.classes.add())
	}
	c.preds[a.Pred] = places
	return fault.None
}

// declare requires that the costs of the declared predicates are numbers.
func (c *checker) declare(decls []syntax.Decl) {
	for _, decl := range decls {
		// Only predicates that occur in rules have positions.
		if places := c.preds[decl.Pred]; len(places) > 0 {
			c.require(places[len(places)-1], Int)
		}
	}
}

// typeRules adds what the rules require, one after the other, or returns the
// first contradiction.
func (c *checker) typeRules(rules []syntax.Rule) error {
	for number, rule := range rules {
		c.rule(rule)
		// Whatever had to be both would put the two types into one class.
		if c.classes.find(int(Int)) == c.classes.find(int(Sym)) {
			return fault.New(fault.Type, number, rule.Head.Pred)
		}
	}
	return nil
}

func (c *checker) rule(r syntax.Rule) {
	vars := scope{}
	c.vars = append(c.vars, vars)
	c.head(vars, r)
	for _, part := range r.Body {
		c.part(vars, part)
	}
}

func (c *checker) head(vars scope, r syntax.Rule) {
	places, args := c.preds[r.Head.Pred], r.Head.Args
	if last := len(args) - 1; r.Agg != group.None && last >= 0 {
		c.require(places[last], Int)
		// Anything can be counted.
		if r.Agg != group.Count {
			c.require(c.term(vars, args[last]), Int)
		}
		args = args[:last]
	}
	c.terms(vars, places, args)
}

func (c *checker) part(vars scope, p syntax.Part) {
	switch p.Form {
	case syntax.Pos, syntax.Neg:
		c.terms(vars, c.preds[p.Atom.Pred], p.Atom.Args)
	case syntax.Cmp:
		a, b := c.term(vars, p.A), c.term(vars, p.B)
		c.classes.unite(a, b)
		if p.Op != column.Eq && p.Op != column.Ne {
			c.require(a, Int)
		}
	case syntax.Let:
		for _, name := range p.Vars() {
			c.require(c.variable(vars, name), Int)
		}
	}
}

// terms requires that each term has the type of the place with its index.
func (c *checker) terms(vars scope, places []int, terms []syntax.Term) {
	for i, term := range terms {
		c.classes.unite(places[i], c.term(vars, term))
	}
}

// term returns the place that has the term's type.
func (c *checker) term(vars scope, t syntax.Term) int {
	switch t.Kind {
	case syntax.Int:
		return int(Int)
	case syntax.Sym:
		return int(Sym)
	}
	return c.variable(vars, t.Text)
}

// variable returns the place of the variable, and gives it one if it has none.
func (c *checker) variable(vars scope, name string) int {
	place, ok := vars[name]
	if !ok {
		place = c.classes.add()
		vars[name] = place
	}
	return place
}

func (c *checker) require(place int, t Type) {
	c.classes.unite(place, int(t))
}

// typeOf returns the type that the place has by what is required so far.
func (c *checker) typeOf(place int) Type {
	switch c.classes.find(place) {
	case c.classes.find(int(Int)):
		return Int
	case c.classes.find(int(Sym)):
		return Sym
	}
	return Any
}

// sigs returns the types of all places.
func (c *checker) sigs() *Sigs {
	s := &Sigs{preds: map[string][]Type{}}
	for pred, places := range c.preds {
		types := make([]Type, len(places))
		for i, place := range places {
			types[i] = c.typeOf(place)
		}
		s.preds[pred] = types
	}
	for _, vars := range c.vars {
		types := map[string]Type{}
		for name, place := range vars {
			types[name] = c.typeOf(place)
		}
		s.vars = append(s.vars, types)
	}
	return s
}
