package lex_test

import (
	"math/rand"
	"slices"
	"strconv"
	"strings"
	"testing"

	"ergo/api"
	"ergo/fault"
	"ergo/lex"
)

// want fails unless All(s) returns these tokens, and an End at the end of s.
func want(t *testing.T, s string, list ...lex.Token) {
	t.Helper()
	list = append(list, lex.Token{Kind: lex.End, At: len(s)})
	got, err := lex.All(s)
	if err != nil || !slices.Equal(got, list) {
		t.Errorf("All(%q) = %v, %v, want %v", s, got, err, list)
	}
}

// wantFault fails unless All(s) returns a fault of that tag at that offset, and no tokens.
func wantFault(t *testing.T, s string, tag fault.Tag, at int) {
	t.Helper()
	got, err := lex.All(s)
	if len(got) != 0 || fault.Of(err) != tag || fault.At(err) != at || fault.Depth(err) != 1 {
		t.Errorf("All(%q) = %v, %v, want %v at %d", s, got, err, tag, at)
	}
}

func name(s string, at int) lex.Token   { return lex.Token{Kind: lex.Name, Text: s, At: at} }
func vari(s string, at int) lex.Token   { return lex.Token{Kind: lex.Var, Text: s, At: at} }
func num(n uint64, at int) lex.Token    { return lex.Token{Kind: lex.Int, Num: n, At: at} }
func str(s string, at int) lex.Token    { return lex.Token{Kind: lex.Str, Text: s, At: at} }
func sign(s string, at int) lex.Token   { return lex.Token{Kind: lex.Sign, Text: s, At: at} }
func isWordByte(b byte) bool            { return b == '_' || isDigit(b) || isLetter(b) }
func isDigit(b byte) bool               { return '0' <= b && b <= '9' }
func isLetter(b byte) bool              { return 'a' <= b|32 && b|32 <= 'z' }
func isBlank(b byte) bool               { return strings.IndexByte(" \t\r\n", b) >= 0 }
func startsToken(b byte) bool           { return isDigit(b) || isLetter(b) || b == '"' || isSign(b) }
func isSign(b byte) bool                { return strings.IndexByte("(),.=<>+-*/%@", b) >= 0 }
func repeat(s string, count int) string { return strings.Repeat(s, count) }

// P12.1: the kinds are numbered in order.
func TestKinds(t *testing.T) {
	kinds := []lex.Kind{lex.End, lex.Name, lex.Var, lex.Int, lex.Str, lex.Sign}
	for i, kind := range kinds {
		if int(kind) != i {
			t.Errorf("kind %d has the number %d", i, kind)
		}
	}
	if lex.Top != uint64(1)<<63 {
		t.Error("Top is not 2^63")
	}
}

// The chapter's example: p(X,"a"). has seven tokens, and End at 9.
func TestExample(t *testing.T) {
	want(t, `p(X,"a").`, name("p", 0), sign("(", 1), vari("X", 2), sign(",", 3), str("a", 4), sign(")", 7), sign(".", 8))
}

// P12.1: texts without tokens have only the End.
func TestNoTokens(t *testing.T) {
	for _, s := range []string{"", " ", "\t\r\n ", "#", "#\n", "# p(X). \"\\q", "#\n#", "##\n\n \t#\r"} {
		want(t, s)
	}
}

// P12.1: words are maximal, and their first byte tells their kind.
func TestWords(t *testing.T) {
	want(t, "a", name("a", 0))
	want(t, "z", name("z", 0))
	want(t, "A", vari("A", 0))
	want(t, "Z", vari("Z", 0))
	want(t, "azAZ09_", name("azAZ09_", 0))
	want(t, "Z_a9", vari("Z_a9", 0))
	want(t, "not", name("not", 0))
	want(t, "a__ B_", name("a__", 0), vari("B_", 4))
	want(t, "p-q", name("p", 0), sign("-", 1), name("q", 2))
	want(t, "a#B\nB", name("a", 0), vari("B", 4))
}

// P12.1: an Int is a maximal sequence of digits; a word may follow directly.
func TestNumbers(t *testing.T) {
	want(t, "0", num(0, 0))
	want(t, "0123456789", num(123456789, 0))
	want(t, "007 8", num(7, 0), num(8, 4))
	want(t, "12ab", num(12, 0), name("ab", 2))
	want(t, "9X", num(9, 0), vari("X", 1))
	want(t, "-5", sign("-", 0), num(5, 1))
	want(t, "1.5", num(1, 0), sign(".", 1), num(5, 2))
	want(t, "9223372036854775807", num(1<<63-1, 0))
	want(t, "9223372036854775808", num(lex.Top, 0))
	want(t, repeat("0", 1000)+"9223372036854775808.", num(lex.Top, 0), sign(".", 1019))
}

// P12.2: an Int above Top is a fault at its first byte.
func TestNumbersAboveTop(t *testing.T) {
	for _, digits := range []string{
		"9223372036854775809", "9223372036854775810", "9223372036854775818", "9300000000000000000",
		"10000000000000000000", "18446744073709551615", "18446744073709551616", "18446744073709551617",
		"92233720368547758080", "184467440737095516160", "00018446744073709551616", repeat("9", 500),
	} {
		wantFault(t, digits, fault.Syntax, 0)
		wantFault(t, "p(1,"+digits+") ;", fault.Syntax, 4)
	}
}

// P12.1: the named sequences of a Str, and bytes that stand for themselves.
func TestStrings(t *testing.T) {
	want(t, `""`, str("", 0))
	want(t, `"a b"`, str("a b", 0))
	want(t, `"\n"`, str("\n", 0))
	want(t, `"\""`, str(`"`, 0))
	want(t, `"\\"`, str(`\`, 0))
	want(t, `"\\n\\\n"`, str("\\n\\\n", 0))
	want(t, `"\\" "\""`, str(`\`, 0), str(`"`, 5))
	want(t, `"a""b"`, str("a", 0), str("b", 3))
	want(t, `"# no comment"x`, str("# no comment", 0), name("x", 14))
	want(t, "\"\x20\x7f\x80\xff\"", str(" \x7f\x80\xff", 0))
	want(t, `"é"`, str("é", 0))
	want(t, `"007"`, str("007", 0))
}

// P12.2: what is wrong within a Str is found where it is.
func TestBadStrings(t *testing.T) {
	for b := range 256 {
		s := `p "a\` + string([]byte{byte(b)}) + `b"`
		if b != 'n' && b != '"' && b != '\\' {
			wantFault(t, s, fault.Syntax, 4)
		}
	}
	for b := range 32 {
		wantFault(t, `p "a`+string([]byte{byte(b)})+`"`, fault.Syntax, 4)
	}
	wantFault(t, `"`, fault.Syntax, 1)
	wantFault(t, `"ab`, fault.Syntax, 3)
	wantFault(t, `p("ab). `, fault.Syntax, 8)
	wantFault(t, `"\`, fault.Syntax, 1)
	wantFault(t, `"a\`, fault.Syntax, 2)
	wantFault(t, `"a\\`, fault.Syntax, 4)
	wantFault(t, `"a\"`, fault.Syntax, 4)
	wantFault(t, `"a\\\`, fault.Syntax, 4)
	wantFault(t, `"a\n`, fault.Syntax, 4)
	wantFault(t, "\"a\\\x01\"", fault.Syntax, 2)
	wantFault(t, "\"a\n\\q\"", fault.Syntax, 2)
	wantFault(t, "\"a\\q\n\"", fault.Syntax, 2)
}

// P12.1: the signs, the longer ones first.
func TestSigns(t *testing.T) {
	for _, s := range strings.Fields(":- := != <= >= ( ) , . = < > + - * / % @") {
		want(t, s, sign(s, 0))
		want(t, " "+s+s+"#"+s, sign(s, 1), sign(s, 1+len(s)))
	}
	want(t, "<==>", sign("<=", 0), sign("=", 2), sign(">", 3))
	want(t, "< =", sign("<", 0), sign("=", 2))
	want(t, "==", sign("=", 0), sign("=", 1))
	want(t, "=<", sign("=", 0), sign("<", 1))
	want(t, ":--", sign(":-", 0), sign("-", 2))
	want(t, ":=-", sign(":=", 0), sign("-", 2))
	want(t, "-:-", sign("-", 0), sign(":-", 1))
	want(t, "!==", sign("!=", 0), sign("=", 2))
}

// P12.2: a byte that starts no token is a fault at that byte.
func TestBytesThatStartNothing(t *testing.T) {
	for b := range 256 {
		c := byte(b)
		if startsToken(c) || isBlank(c) || c == '#' {
			continue
		}
		wantFault(t, "p "+string([]byte{c}), fault.Syntax, 2)
		wantFault(t, "p "+string([]byte{c})+" ;", fault.Syntax, 2)
		if c != '_' {
			wantFault(t, "p"+string([]byte{c}), fault.Syntax, 1)
		}
	}
	wantFault(t, "1_", fault.Syntax, 1)
	wantFault(t, "p : - q", fault.Syntax, 2)
	wantFault(t, "X ! = Y", fault.Syntax, 2)
	wantFault(t, "# c\n;", fault.Syntax, 4)
}

// P12.1: a comment ends with its line, and nowhere else.
func TestComments(t *testing.T) {
	want(t, "a # b\nc", name("a", 0), name("c", 6))
	want(t, "a#b\n\nc#", name("a", 0), name("c", 5))
	want(t, "a # b\rc", name("a", 0))
	want(t, "a # ; \x00 \"\nc", name("a", 0), name("c", 10))
	want(t, "#a\n#b\nc", name("c", 6))
	want(t, "\ta\r\nb", name("a", 1), name("b", 4))
}

// P12.2: a word, and the Text of a Str, have at most MaxName bytes.
func TestLongWords(t *testing.T) {
	for _, first := range []string{"a", "A"} {
		long := first + repeat("b", api.MaxName-1)
		if list, err := lex.All("p " + long + "."); err != nil || list[1].Text != long {
			t.Errorf("a word of %d bytes: %v, %v", len(long), list, err)
		}
		wantFault(t, long+"c", fault.Many, 0)
		wantFault(t, "p "+long+"cd;", fault.Many, 2)
		wantFault(t, "p ; "+long+"c", fault.Syntax, 2)
	}
	full := repeat("x", api.MaxName)
	want(t, `"`+full+`"`, str(full, 0))
	want(t, `"`+repeat(`\\`, api.MaxName)+`"`, str(repeat(`\`, api.MaxName), 0))
	wantFault(t, `p "`+full+`x" ;`, fault.Many, 2)
	wantFault(t, `"`+repeat(`\n`, api.MaxName+1)+`"`, fault.Many, 0)
	wantFault(t, `"`+repeat("é", 21)+`"`, fault.Many, 0)
	want(t, repeat("7", 1)+repeat(" ", 100)+"8", num(7, 0), num(8, 101))
}

// P12.2: a long text that is not a Str at all, because it is not well-formed,
// is a fault where that shows.
func TestLongTextsThatAreNoStrings(t *testing.T) {
	long := repeat("x", 50)
	wantFault(t, `"`+long, fault.Syntax, 51)
	wantFault(t, `"`+long+`\q"`, fault.Syntax, 51)
	wantFault(t, `"`+long+"\n\"", fault.Syntax, 51)
}

// P12.2: Plain is true exactly for single Names other than not, of any length.
func TestPlain(t *testing.T) {
	for _, s := range []string{"a", "z", "aB_9", "nothing", "no", "nott", "noT", "min", "count", "a" + repeat("b", 100)} {
		if !lex.Plain(s) {
			t.Errorf("Plain(%q) = false", s)
		}
	}
	for _, s := range []string{"", "not", "Ab", "A", "9", "_a", "a b", " a", "a ", "a-b", "a.", "#", "a#", "a\n", "é", "aé", "a\x00", `"a"`, "Not", "not "} {
		if lex.Plain(s) {
			t.Errorf("Plain(%q) = true", s)
		}
	}
	for b := range 256 {
		c := byte(b)
		if got, want := lex.Plain(string([]byte{c})), 'a' <= c && c <= 'z'; got != want {
			t.Errorf("Plain(%q) = %v", c, got)
		}
		if got, want := lex.Plain("a"+string([]byte{c})), isWordByte(c); got != want {
			t.Errorf("Plain of a and %q = %v", c, got)
		}
	}
}

// P12.2: Quote writes newlines, quotes and backslashes as sequences, and other bytes unchanged.
func TestQuote(t *testing.T) {
	for s, want := range map[string]string{
		"":            `""`,
		"a":           `"a"`,
		"New Town":    `"New Town"`,
		"\n":          `"\n"`,
		`"`:           `"\""`,
		`\`:           `"\\"`,
		`\n`:          `"\\n"`,
		"a\"\n\\":     `"a\"\n\\"`,
		"\t\x00\xffé": "\"\t\x00\xffé\"",
	} {
		if got := lex.Quote(s); got != want {
			t.Errorf("Quote(%q) = %q, want %q", s, got, want)
		}
	}
}

// P12.2: a Str has the value of which Quote made it.
func TestQuoteIsRead(t *testing.T) {
	const bytes = "ab \"\"\\\\\n\n#\x7f\xff"
	r := rand.New(rand.NewSource(1))
	for range 2000 {
		value := make([]byte, r.Intn(api.MaxName+1))
		for i := range value {
			value[i] = bytes[r.Intn(len(bytes))]
		}
		want(t, lex.Quote(string(value)), str(string(value), 0))
	}
}

// randomToken returns a token, without its offset, and a text that denotes it.
func randomToken(r *rand.Rand) (lex.Token, string) {
	words := strings.Fields("a B not min count Xy a_1 Q9_ zZ")
	signs := strings.Fields(":- := != <= >= ( ) , . = < > + - * / % @")
	switch r.Intn(4) {
	case 0:
		text := words[r.Intn(len(words))]
		if 'a' <= text[0] {
			return name(text, 0), text
		}
		return vari(text, 0), text
	case 1:
		n := r.Uint64() >> (1 + r.Intn(63))
		return num(n, 0), repeat("0", r.Intn(3)) + strconv.FormatUint(n, 10)
	case 2:
		text := []string{"", "a b", "\"", "\\", "#\n", ":-"}[r.Intn(6)]
		return str(text, 0), lex.Quote(text)
	}
	text := signs[r.Intn(len(signs))]
	return sign(text, 0), text
}

// P12.1: any sequence of tokens with blanks and comments between them is read back.
func TestRandomTokens(t *testing.T) {
	gaps := []string{" ", "\t", "\r", "\n", "  \n", "# ; \"\n", "#\n #\n"}
	r := rand.New(rand.NewSource(2))
	for range 2000 {
		var text strings.Builder
		var list []lex.Token
		for range r.Intn(12) {
			token, written := randomToken(r)
			text.WriteString(gaps[r.Intn(len(gaps))])
			token.At = text.Len()
			list = append(list, token)
			text.WriteString(written)
		}
		text.WriteString(gaps[r.Intn(len(gaps))])
		want(t, text.String(), list...)
	}
}

// P12.1, P12.2: for any bytes there are either tokens in ascending order, ending
// with an End, or one fault within the text.
func TestRandomBytes(t *testing.T) {
	const bytes = "aZ0_ \n#\"\\n:-=!<>().,@;\x01\xff"
	r := rand.New(rand.NewSource(3))
	for range 20000 {
		s := make([]byte, r.Intn(8))
		for i := range s {
			s[i] = bytes[r.Intn(len(bytes))]
		}
		list, err := lex.All(string(s))
		if err != nil {
			if at := fault.At(err); len(list) != 0 || at < 0 || at > len(s) || fault.Of(err) != fault.Syntax {
				t.Fatalf("All(%q) = %v, %v", s, list, err)
			}
			continue
		}
		for i, token := range list {
			if (token.Kind == lex.End) != (i == len(list)-1) || i > 0 && token.At <= list[i-1].At && token.Kind != lex.End {
				t.Fatalf("All(%q) = %v", s, list)
			}
		}
	}
}

// Rule 1: a long text is read in one pass.
func TestLongText(t *testing.T) {
	list, err := lex.All(repeat("p(X) :- q(X). # c\n", 50000))
	if err != nil || len(list) != 10*50000+1 {
		t.Errorf("%d tokens, %v", len(list), err)
	}
	wantFault(t, repeat("x", 1<<20), fault.Many, 0)
	wantFault(t, `"`+repeat("x", 1<<20), fault.Syntax, 1<<20+1)
	want(t, "#"+repeat("x", 1<<20))
}
