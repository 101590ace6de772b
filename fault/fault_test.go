package fault_test

import (
	"errors"
	"io"
	"math"
	"strings"
	"testing"

	"ergo/fault"
)

// holder is an error from outside the package that wraps another one.
type holder struct{ err error }

func (h holder) Error() string { return "held " + h.err.Error() }
func (h holder) Unwrap() error { return h.err }

// P1.1: the tags are numbered in order, and their names are in lower case.
func TestTagNames(t *testing.T) {
	tags := []fault.Tag{
		fault.None, fault.Syntax, fault.Deep, fault.Many, fault.Arity, fault.Type, fault.Unsafe,
		fault.Cycle, fault.Admit, fault.Unknown, fault.Arith, fault.Fuel, fault.Rows, fault.Command,
	}
	names := strings.Fields("none syntax deep many arity type unsafe cycle admit unknown arith fuel rows command")
	for i, name := range names {
		if int(tags[i]) != i {
			t.Errorf("tag %s has the number %d, want %d", name, tags[i], i)
		}
		if got := tags[i].Error(); got != name {
			t.Errorf("Tag(%d).Error() = %q, want %q", i, got, name)
		}
	}
}

// P1.1: any other number is written in decimal.
func TestTagWithoutName(t *testing.T) {
	cases := map[fault.Tag]string{
		14:            "tag 14",
		99:            "tag 99",
		-1:            "tag -1",
		math.MaxInt64: "tag 9223372036854775807",
		math.MinInt64: "tag -9223372036854775808",
	}
	for tag, want := range cases {
		if got := tag.Error(); got != want {
			t.Errorf("Error() = %q, want %q", got, want)
		}
	}
}

// P1.1: the Error of a Fault, with and without What and Err.
func TestFaultError(t *testing.T) {
	inner := fault.New(fault.Type, 3, "p")
	cases := []struct {
		f    fault.Fault
		want string
	}{
		{fault.Fault{}, "none at 0"},
		{fault.Fault{Tag: fault.Rows, At: 12}, "rows at 12"},
		{fault.Fault{Tag: fault.Rows, At: -5, What: "t"}, "rows at -5 (t)"},
		{fault.Fault{Tag: 77, At: 1, What: "("}, "tag 77 at 1 (()"},
		{fault.Fault{Tag: fault.Deep, At: 1, Err: io.EOF}, "deep at 1: EOF"},
		{fault.Fault{Tag: fault.Deep, At: 1, What: " ", Err: io.EOF}, "deep at 1 ( ): EOF"},
		{fault.Fault{Tag: fault.Deep, Err: fault.Fuel}, "deep at 0: fuel"},
		{fault.Fault{Tag: fault.Type, What: "load", Err: inner}, "type at 0 (load): type at 3 (p)"},
		{fault.Fault{Tag: fault.Many, Err: holder{inner}}, "many at 0: held type at 3 (p)"},
		{fault.Fault{Tag: fault.Many, Err: &fault.Fault{At: 1, Err: io.EOF}}, "many at 0: none at 1: EOF"},
	}
	for _, c := range cases {
		if got := c.f.Error(); got != c.want {
			t.Errorf("Error() = %q, want %q", got, c.want)
		}
	}
}

// P1.1: Is compares with Tags only, and only with the fault's own.
func TestFaultIs(t *testing.T) {
	f := &fault.Fault{Tag: fault.Type, At: 3, What: "p", Err: fault.Fuel}
	if !f.Is(fault.Type) {
		t.Error("Is must be true of the fault's own tag")
	}
	same := &fault.Fault{Tag: fault.Type, At: 3, What: "p", Err: fault.Fuel}
	for _, target := range []error{nil, fault.None, fault.Arity, fault.Fuel, same, f, io.EOF, holder{fault.Type}} {
		if f.Is(target) {
			t.Errorf("Is(%v) must be false", target)
		}
	}
	if !(&fault.Fault{}).Is(fault.None) || (&fault.Fault{}).Is(nil) {
		t.Error("an empty fault is None, and not nil")
	}
	if !(&fault.Fault{Tag: 50}).Is(fault.Tag(50)) {
		t.Error("a tag without a name can be asked for as well")
	}
}

// P1.1: Unwrap returns Err.
func TestFaultUnwrap(t *testing.T) {
	if (&fault.Fault{Tag: fault.Type}).Unwrap() != nil {
		t.Error("a fault without Err wraps nothing")
	}
	if err := (&fault.Fault{Err: io.EOF}).Unwrap(); err == nil || err != io.EOF {
		t.Errorf("Unwrap() = %v, want EOF", err)
	}
}

// P1.2: New sets the three fields, and no Err.
func TestNew(t *testing.T) {
	err := fault.New(fault.Cycle, -4, "q")
	f, ok := err.(*fault.Fault)
	if !ok || *f != (fault.Fault{Tag: fault.Cycle, At: -4, What: "q"}) {
		t.Fatalf("New returned %#v", err)
	}
	if fault.New(fault.None, 0, "") == nil {
		t.Error("a fault with the tag None is an error all the same")
	}
}

// P1.2: Wrap keeps the error and takes over its tag.
func TestWrap(t *testing.T) {
	if err := fault.Wrap(nil, 1, "x"); err != nil {
		t.Errorf("Wrap(nil) = %#v, want nil", err)
	}
	cases := []struct {
		err error
		tag fault.Tag
	}{
		{fault.New(fault.Type, 3, "p"), fault.Type},
		{fault.Wrap(fault.New(fault.Arith, 3, "p"), 2, "q"), fault.Arith},
		{fault.Fuel, fault.Fuel},
		{fault.Tag(99), 99},
		{io.EOF, fault.None},
		{holder{fault.New(fault.Rows, 9, "")}, fault.Rows},
		{holder{fault.Many}, fault.Many},
	}
	for _, c := range cases {
		err := fault.Wrap(c.err, 7, "w")
		f, ok := err.(*fault.Fault)
		if !ok || *f != (fault.Fault{Tag: c.tag, At: 7, What: "w", Err: c.err}) {
			t.Errorf("Wrap(%v) = %#v", c.err, err)
		}
	}
}

// P1.2: Of, At and Depth look for faults as errors.As does.
func TestOfAtDepth(t *testing.T) {
	inner := fault.New(fault.Type, 3, "p")
	cases := []struct {
		name  string
		err   error
		tag   fault.Tag
		at    int
		depth int
	}{
		{"nil", nil, fault.None, -1, 0},
		{"another error", io.EOF, fault.None, -1, 0},
		{"a tag", fault.Fuel, fault.Fuel, -1, 0},
		{"a held tag", holder{fault.Fuel}, fault.Fuel, -1, 0},
		{"a tag without a name", fault.Tag(-3), -3, -1, 0},
		{"the first of two tags", errors.Join(io.EOF, fault.Rows, fault.Fuel), fault.Rows, -1, 0},
		{"a fault", inner, fault.Type, 3, 1},
		{"a held fault", holder{holder{inner}}, fault.Type, 3, 1},
		{"a fault at a negative position", fault.New(fault.Deep, -9, ""), fault.Deep, -9, 1},
		{"a wrapped fault", fault.Wrap(inner, 0, "load"), fault.Type, 0, 2},
		{"a wrapped held fault", fault.Wrap(holder{inner}, 1, ""), fault.Type, 1, 2},
		{"a held wrapped held fault", holder{fault.Wrap(holder{inner}, 1, "")}, fault.Type, 1, 2},
		{"a wrapped tag", fault.Wrap(fault.Fuel, 5, ""), fault.Fuel, 5, 1},
		{"a wrapped other error", fault.Wrap(io.EOF, 5, ""), fault.None, 5, 1},
		{"another tag than that of Err", &fault.Fault{Tag: fault.Many, At: 2, Err: inner}, fault.Many, 2, 2},
		{"None around a fault", &fault.Fault{At: 2, Err: inner}, fault.None, 2, 2},
		{"None around a tag", &fault.Fault{At: 2, Err: fault.Fuel}, fault.None, 2, 1},
		{"a fault after a tag", errors.Join(fault.Fuel, inner), fault.Type, 3, 1},
		{"the first of two faults", errors.Join(fault.Wrap(inner, 8, ""), fault.New(fault.Rows, 1, "")), fault.Type, 8, 2},
	}
	for _, c := range cases {
		if got := fault.Of(c.err); got != c.tag {
			t.Errorf("%s: Of = %v, want %v", c.name, got, c.tag)
		}
		if got := fault.At(c.err); got != c.at {
			t.Errorf("%s: At = %d, want %d", c.name, got, c.at)
		}
		if got := fault.Depth(c.err); got != c.depth {
			t.Errorf("%s: Depth = %d, want %d", c.name, got, c.depth)
		}
	}
}

// P1.2: errors.Is finds the tag of every result of New and Wrap.
func TestErrorsIs(t *testing.T) {
	results := []error{
		fault.New(fault.None, 0, ""),
		fault.New(fault.Type, 3, "p"),
		fault.New(99, 3, "p"),
		fault.Wrap(fault.New(fault.Type, 3, "p"), 0, "load"),
		fault.Wrap(fault.Command, 0, ""),
		fault.Wrap(io.EOF, 0, ""),
		fault.Wrap(holder{fault.New(fault.Admit, 3, "p")}, 0, ""),
	}
	for _, err := range results {
		if !errors.Is(err, fault.Of(err)) {
			t.Errorf("errors.Is(%v, %v) must be true", err, fault.Of(err))
		}
		if errors.Is(err, fault.Arity) {
			t.Errorf("errors.Is(%v, arity) must be false", err)
		}
	}
	if !errors.Is(fault.Wrap(io.EOF, 0, ""), io.EOF) {
		t.Error("errors.Is must find the wrapped error itself")
	}
}

// The example of the chapter.
func TestExample(t *testing.T) {
	err := fault.Wrap(fault.New(fault.Type, 3, "p"), 0, "load")
	if got := err.Error(); got != "type at 0 (load): type at 3 (p)" {
		t.Errorf("Error() = %q", got)
	}
	if fault.Of(err) != fault.Type || fault.Depth(err) != 2 {
		t.Errorf("tag %v, depth %d", fault.Of(err), fault.Depth(err))
	}
}

// Rule 1: a nil Fault is not among the receivers that may panic.
func TestNilFault(t *testing.T) {
	var f *fault.Fault
	if got := f.Error(); got != "none at 0" {
		t.Errorf("Error() = %q", got)
	}
	if !f.Is(fault.None) || f.Is(fault.Type) || f.Unwrap() != nil {
		t.Error("a nil fault must stand for an empty one")
	}
	if fault.Of(f) != fault.None || fault.At(f) != 0 || fault.Depth(f) != 1 {
		t.Error("Of, At and Depth must take a nil fault as an empty one")
	}
	if got := fault.Wrap(f, 1, "w").Error(); got != "none at 1 (w): none at 0" {
		t.Errorf("Error() = %q", got)
	}
}

// The document bounds nesting by 2^16 levels; up to there nothing may become slow.
func TestLongChain(t *testing.T) {
	const levels = 1 << 16
	err := fault.New(fault.Deep, 0, "")
	for range levels - 1 {
		err = fault.Wrap(err, 0, "")
	}
	if got := fault.Depth(err); got != levels {
		t.Errorf("Depth = %d, want %d", got, levels)
	}
	if got, want := err.Error(), strings.Repeat("deep at 0: ", levels-1)+"deep at 0"; got != want {
		t.Errorf("Error has %d bytes, want %d", len(got), len(want))
	}
}
