package intern_test

import (
	"bytes"
	"math"
	"math/rand"
	"strconv"
	"testing"

	"ergo/intern"
)

// checkTable checks that the table has exactly these strings, numbered in order.
func checkTable(t *testing.T, table *intern.Table, texts ...string) {
	t.Helper()
	if got := table.Len(); got != len(texts) {
		t.Errorf("Len() = %d, want %d", got, len(texts))
	}
	for i, text := range texts {
		if id, ok := table.Find(text); id != int64(i) || !ok {
			t.Errorf("Find(%q) = %d %v, want %d true", text, id, ok, i)
		}
		if got, ok := table.Text(int64(i)); got != text || !ok {
			t.Errorf("Text(%d) = %q %v, want %q true", i, got, ok, text)
		}
	}
	for _, id := range []int64{-1, int64(len(texts)), int64(len(texts)) + 1, 1 << 32, math.MinInt64, math.MaxInt64} {
		if got, ok := table.Text(id); got != "" || ok {
			t.Errorf("Text(%d) = %q %v, want nothing", id, got, ok)
		}
	}
}

// checkMissing checks that the strings have no numbers.
func checkMissing(t *testing.T, table *intern.Table, texts ...string) {
	t.Helper()
	for _, text := range texts {
		if id, ok := table.Find(text); id != 0 || ok {
			t.Errorf("Find(%q) = %d %v, want 0 false", text, id, ok)
		}
	}
}

// filled returns a table with these strings, in order.
func filled(texts ...string) *intern.Table {
	table := intern.New()
	for _, text := range texts {
		table.ID(text)
	}
	return table
}

// P4.1: a new table is empty; the empty string has no number yet either.
func TestNew(t *testing.T) {
	checkTable(t, intern.New())
	checkMissing(t, intern.New(), "", "a")
}

// P4.1: each new string gets the next number, and keeps it.
func TestID(t *testing.T) {
	table := intern.New()
	calls := []struct {
		text string
		id   int64
	}{
		{"b", 0}, {"a", 1}, {"b", 0}, {"", 2}, {"B", 3}, {"a", 1}, {"", 2}, {"b ", 4}, {"\x00", 5}, {"\xff", 6}, {"\xfe", 7}, {"ä", 8}, {"b", 0},
	}
	for _, c := range calls {
		if got := table.ID(c.text); got != c.id {
			t.Errorf("ID(%q) = %d, want %d", c.text, got, c.id)
		}
	}
	checkTable(t, table, "b", "a", "", "B", "b ", "\x00", "\xff", "\xfe", "ä")
	checkMissing(t, table, "A", "c", "b\x00", "ab", "\xfd")
}

// P4.1: Find and Text give no numbers.
func TestFindAddsNothing(t *testing.T) {
	table := filled("a")
	checkMissing(t, table, "b", "")
	table.Text(1)
	table.Compare(0, 1)
	checkTable(t, table, "a")
	if got := table.ID("c"); got != 1 {
		t.Errorf("ID = %d, want 1", got)
	}
}

// P4.1: two tables have nothing in common.
func TestTablesAreSeparate(t *testing.T) {
	x, y := filled("a", "b"), filled("b")
	checkTable(t, x, "a", "b")
	checkTable(t, y, "b")
	checkMissing(t, y, "a")
}

// P4.1: many strings keep their numbers while the table grows.
func TestManyStrings(t *testing.T) {
	const n = 50000
	table := intern.New()
	texts := make([]string, n)
	for i := range texts {
		texts[i] = "s" + strconv.Itoa(i*7%n)
	}
	for range 2 {
		for i, text := range texts {
			if got := table.ID(text); got != int64(i) {
				t.Fatalf("ID(%q) = %d, want %d", text, got, i)
			}
		}
	}
	checkTable(t, table, texts...)
}

// P4.2: Compare on every pair of the numbers, in the order in which they must be.
func TestCompare(t *testing.T) {
	table := filled("b", "a", "", "ab", "aa", "B", "\xff", "a\x00", "ä", "10", "9")
	var order []int64
	order = append(order, math.MinInt64, -2, -1, 11, 12, 1<<40, math.MaxInt64)
	for _, text := range []string{"", "10", "9", "B", "a", "a\x00", "aa", "ab", "b", "ä", "\xff"} {
		id, ok := table.Find(text)
		if !ok {
			t.Fatalf("%q has no number", text)
		}
		order = append(order, id)
	}
	checkOrder(t, table, order)
}

// checkOrder checks Compare on every pair of an ascending list.
func checkOrder(t *testing.T, table *intern.Table, order []int64) {
	t.Helper()
	for i, a := range order {
		for j, b := range order {
			want := 0
			if i < j {
				want = -1
			}
			if i > j {
				want = 1
			}
			if got := table.Compare(a, b); got != want {
				t.Errorf("Compare(%d, %d) = %d, want %d", a, b, got, want)
			}
		}
	}
}

// P4.2: in an empty table all numbers are compared as numbers.
func TestCompareWithoutStrings(t *testing.T) {
	checkOrder(t, intern.New(), []int64{math.MinInt64, -1, 0, 1, 2, math.MaxInt64})
}

// P4.2: a number that gets a string moves behind those without one.
func TestCompareAfterID(t *testing.T) {
	table := intern.New()
	if got := table.Compare(0, 1); got != -1 {
		t.Errorf("Compare(0, 1) = %d before ID, want -1", got)
	}
	table.ID("x")
	if got := table.Compare(0, 1); got != 1 {
		t.Errorf("Compare(0, 1) = %d after ID, want 1", got)
	}
}

// P4.2: Compare is bytewise on all kinds of bytes.
func TestCompareOfManyStrings(t *testing.T) {
	r := rand.New(rand.NewSource(1))
	letters := []byte{0, 'A', 'a', 0x7f, 0x80, 0xff}
	table := intern.New()
	for range 200 {
		text := make([]byte, r.Intn(4))
		for i := range text {
			text[i] = letters[r.Intn(len(letters))]
		}
		table.ID(string(text))
	}
	for a := range int64(table.Len()) {
		for b := range int64(table.Len()) {
			x, _ := table.Text(a)
			y, _ := table.Text(b)
			if got, want := table.Compare(a, b), bytes.Compare([]byte(x), []byte(y)); got != want {
				t.Fatalf("Compare of %q and %q = %d, want %d", x, y, got, want)
			}
		}
	}
}

// P4.2: a clone has the same strings; afterwards neither sees what the other gets.
func TestClone(t *testing.T) {
	for n := range 20 {
		var texts []string
		for i := range n {
			texts = append(texts, strconv.Itoa(i))
		}
		x := filled(texts...)
		y := x.Clone()
		checkTable(t, y, texts...)
		// Both get the same number for different strings: shared memory would show.
		if a, b := x.ID("left"), y.ID("right"); a != int64(n) || b != int64(n) {
			t.Fatalf("ID after Clone = %d and %d, want %d", a, b, n)
		}
		y.ID("more")
		checkTable(t, x, append(texts[:n:n], "left")...)
		checkTable(t, y, append(texts[:n:n], "right", "more")...)
		checkMissing(t, x, "right", "more")
		checkMissing(t, y, "left")
	}
}

// P4.2: a clone of a clone is independent as well.
func TestCloneOfClone(t *testing.T) {
	x := filled("a")
	y := x.Clone()
	z := y.Clone()
	x.ID("x")
	y.ID("y")
	z.ID("z")
	checkTable(t, x, "a", "x")
	checkTable(t, y, "a", "y")
	checkTable(t, z, "a", "z")
}

// Rule 1 excludes only a nil Table: one that New did not make must not panic.
func TestZeroTable(t *testing.T) {
	var table intern.Table
	checkTable(t, &table)
	checkMissing(t, &table, "", "a")
	checkOrder(t, &table, []int64{-1, 0, 1})
	clone := table.Clone()
	if table.ID("a") != 0 || clone.ID("b") != 0 {
		t.Error("the first string must get the number 0")
	}
	checkTable(t, &table, "a")
	checkTable(t, clone, "b")
}
