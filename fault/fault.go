// Package fault is layer 1, tagged errors: see shared/doc/01-fault.md.
package fault

import (
	"errors"
	"strconv"
	"strings"
)

// Tag is the kind of an error; it is an error by itself.
type Tag int

// The tags.
const (
	None    Tag = iota
	Syntax      // a text that does not conform to the grammar
	Deep        // expressions nested too deeply
	Many        // more than a limit allows
	Arity       // a predicate with two different numbers of positions
	Type        // a position with two types
	Unsafe      // a variable that nothing binds
	Cycle       // a predicate that depends strictly on its own component
	Admit       // a cost that is not admissible
	Unknown     // a predicate or a fact that does not exist
	Arith       // arithmetic without a result
	Fuel        // more rounds than allowed
	Rows        // more rows than allowed
	Command     // not a command
)

var names = [...]string{
	"none",
	"syntax",
	"deep",
	"many",
	"arity",
	"type",
	"unsafe",
	"cycle",
	"admit",
	"unknown",
	"arith",
	"fuel",
	"rows",
	"command",
}

// Error returns the tag's name in lower case, or its number if it has no name.
func (t Tag) Error() string {
	if t < 0 || int(t) >= len(names) {
		return "tag " + strconv.Itoa(int(t))
	}
	return names[t]
}

// Fault is a Tag at a position, with a description, and possibly an error that it wraps.
type Fault struct {
	Tag  Tag
	At   int
	What string
	Err  error // the wrapped error, or nil
}

// value lets a nil Fault stand for an empty one: errors.As finds nil Faults as
// well, and none of the functions may panic on them.
func (f *Fault) value() Fault {
	if f == nil {
		return Fault{}
	}
	return *f
}

// Error returns the fault's tag, position and description, and the same of what it wraps.
//
// It follows directly wrapped faults in a loop because recursion would copy the
// text of a long chain once for each of its faults.
func (f *Fault) Error() string {
	var text strings.Builder
	for {
		v := f.value()
		v.write(&text)
		if v.Err == nil {
			return text.String()
		}
		text.WriteString(": ")
		next, ok := v.Err.(*Fault)
		if !ok {
			text.WriteString(v.Err.Error())
			return text.String()
		}
		f = next
	}
}

// write appends the part of the text that is about this fault alone.
func (f Fault) write(text *strings.Builder) {
	text.WriteString(f.Tag.Error())
	text.WriteString(" at ")
	text.WriteString(strconv.Itoa(f.At))
	if f.What != "" {
		text.WriteString(" (")
		text.WriteString(f.What)
		text.WriteString(")")
	}
}

// Is reports whether target is the fault's Tag; errors.Is asks it.
func (f *Fault) Is(target error) bool {
	t, ok := target.(Tag)
	return ok && t == f.value().Tag
}

// Unwrap returns the wrapped error, or nil.
func (f *Fault) Unwrap() error {
	return f.value().Err
}

// New returns a *Fault that wraps nothing.
func New(t Tag, at int, what string) error {
	return &Fault{Tag: t, At: at, What: what}
}

// Wrap returns a *Fault that wraps err and has its tag; nil if err is nil.
func Wrap(err error, at int, what string) error {
	if err == nil {
		return nil
	}
	return &Fault{Tag: Of(err), At: at, What: what, Err: err}
}

// Of returns the Tag of the first *Fault in err, or else the first Tag in err, or else None.
func Of(err error) Tag {
	if f, ok := first(err); ok {
		return f.Tag
	}
	var t Tag
	if errors.As(err, &t) {
		return t
	}
	return None
}

// At returns the position of the first *Fault in err, or -1 if there is none.
func At(err error) int {
	if f, ok := first(err); ok {
		return f.At
	}
	return -1
}

// Depth returns the number of faults in err, each next one in the Err of the previous one.
func Depth(err error) int {
	n := 0
	for f, ok := first(err); ok; f, ok = first(f.Err) {
		n++
	}
	return n
}

// first returns the first Fault that errors.As finds in err.
func first(err error) (Fault, bool) {
	var f *Fault
	if !errors.As(err, &f) {
		return Fault{}, false
	}
	return f.value(), true
}
