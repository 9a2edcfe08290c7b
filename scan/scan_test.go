package scan

import (
	"math/rand"
	"slices"
	"strings"
	"testing"

	"taxirank/api"
)

func w(s string) Token  { return Token{Kind: Word, Text: s} }
func q(s string) Token  { return Token{Kind: Name, Text: s} }
func tx(s string) Token { return Token{Kind: Text, Text: s} }
func n(s string) Token  { return Token{Kind: Number, Text: s} }
func o(s string) Token  { return Token{Kind: Sign, Text: s} }

// bare is tokens without where they stand.
func bare(l []Token) []Token {
	l = slices.Clone(l)
	for i := range l {
		l[i].From, l[i].To = 0, 0
	}
	return l
}

// S1: every kind of token, and what stands between.
func TestTokens(t *testing.T) {
	for _, c := range []struct {
		s string
		l []Token
	}{
		{"", nil},
		{" \t\r\n", nil},
		{"-- c", nil},
		{"-- c\n--\n", nil},
		{"/**/", nil},
		{"/*/**/*/", nil},
		{"/*/ */", nil},
		{"/***/", nil},
		{`Set x=E'a\'b' -- c`, []Token{w("set"), w("x"), o("="), tx("a'b")}},
		{"a--b\nc", []Token{w("a"), w("c")}},
		{"a/*b/*c*/d*/e", []Token{w("a"), w("e")}},
		{"a- -b", []Token{w("a"), o("-"), o("-"), w("b")}},
		{"a/ *b*/", []Token{w("a"), o("/"), o("*"), w("b"), o("*"), o("/")}},
		{"_A9$b", []Token{w("_a9$b")}},
		{"\xc3\x9cbA\x80", []Token{w("\xc3\x9cba\x80")}},
		{"9a", []Token{n("9"), w("a")}},
		{"azAZ_09$", []Token{w("azaz_09$")}},
		{"z Z", []Token{w("z"), w("z")}},
		{"0 09", []Token{n("0"), n("09")}},
		{"$z0Z$a$z0Z$", []Token{tx("a")}},
		{"\x0b\x7f", []Token{o("\x0b"), o("\x7f")}},
		{`"A b"`, []Token{q("A b")}},
		{`"a""b"`, []Token{q(`a"b`)}},
		{`""""`, []Token{q(`"`)}},
		{`"a\"`, []Token{q(`a\`)}},
		{`"a" "b"`, []Token{q("a"), q("b")}},
		{`''`, []Token{tx("")}},
		{`'it''s'`, []Token{tx("it's")}},
		{`''''`, []Token{tx("'")}},
		{`'a\'`, []Token{tx(`a\`)}},
		{`'a' 'b'`, []Token{tx("a"), tx("b")}},
		{"'a\n--b'", []Token{tx("a\n--b")}},
		{`e'\n\t\r\\\x\''''`, []Token{tx("\n\t\r\\x''")}},
		{`E'\N'`, []Token{tx("N")}},
		{`e 'a'`, []Token{w("e"), tx("a")}},
		{`ae'a\'`, []Token{w("ae"), tx(`a\`)}},
		{`e"a"`, []Token{w("e"), q("a")}},
		{"$$a$$", []Token{tx("a")}},
		{"$$$$", []Token{tx("")}},
		{"$a$ $$ '$b$ \\ $a$b", []Token{tx(" $$ '$b$ \\ "), w("b")}},
		{"$A1$x$a1$$A1$", []Token{tx("x$a1$")}},
		{"$_\x80$x$_\x80$", []Token{tx("x")}},
		{"$1$", []Token{o("$"), n("1"), o("$")}},
		{"$a", []Token{o("$"), w("a")}},
		{"$a b$", []Token{o("$"), w("a"), w("b$")}},
		{"$", []Token{o("$")}},
		{"a$$b", []Token{w("a$$b")}},
		{"1", []Token{n("1")}},
		{"1.5.", []Token{n("1.5.")}},
		{".5", []Token{n(".5")}},
		{"a.b", []Token{w("a"), o("."), w("b")}},
		{"..5", []Token{o("."), n(".5")}},
		{"1e5", []Token{n("1e5")}},
		{"1E+5", []Token{n("1E+5")}},
		{"1e-5e+6", []Token{n("1e-5e+6")}},
		{"1 1.5 .5 1e5 1E-5 1e+ 1..2", []Token{n("1"), n("1.5"), n(".5"), n("1e5"), n("1E-5"), n("1"), w("e"), o("+"), n("1..2")}},
		{"1e", []Token{n("1"), w("e")}},
		{"1E", []Token{n("1"), w("e")}},
		{".5e", []Token{n(".5"), w("e")}},
		{"1.e5", []Token{n("1.e5")}},
		{"1e5.5", []Token{n("1e5.5")}},
		{"1e;", []Token{n("1"), w("e"), o(";")}},
		{"1e 5", []Token{n("1"), w("e"), n("5")}},
		{"1ee5", []Token{n("1"), w("ee5")}},
		{"1e5e", []Token{n("1e5"), w("e")}},
		{"1e5E-", []Token{n("1e5"), w("e"), o("-")}},
		{"1ex5", []Token{n("1"), w("ex5")}},
		{"1e_5", []Token{n("1"), w("e_5")}},
		{"1e.", []Token{n("1"), w("e"), o(".")}},
		{"1e.5", []Token{n("1"), w("e"), n(".5")}},
		{"1e+", []Token{n("1"), w("e"), o("+")}},
		{"1e-", []Token{n("1"), w("e"), o("-")}},
		{"1e- 5", []Token{n("1"), w("e"), o("-"), n("5")}},
		{"1e+-5", []Token{n("1"), w("e"), o("+"), o("-"), n("5")}},
		{"1e-.5", []Token{n("1"), w("e"), o("-"), n(".5")}},
		{"1e--5", []Token{n("1"), w("e")}},
		{`1e'a\'b'`, []Token{n("1"), tx("a'b")}},
		{`1e"a"`, []Token{n("1"), w("e"), q("a")}},
		{"1e$$a$$", []Token{n("1"), w("e$$a$$")}},
		{"1+5", []Token{n("1"), o("+"), n("5")}},
		{"-5", []Token{o("-"), n("5")}},
		{"a;b", []Token{w("a"), o(";"), w("b")}},
		{"@#", []Token{o("@"), o("#")}},
	} {
		l, e := Scan(c.s)
		if e != api.OK || !slices.Equal(bare(l), c.l) {
			t.Errorf("Scan(%q) = %v, %v", c.s, l, e)
		}
	}
}

// S1: From where a token begins, To just behind its end.
func TestPlaces(t *testing.T) {
	want := []Token{{Word, "ab", 1, 3}, {Text, "c'", 4, 9}, {Text, "\n", 9, 14}, {Name, "d", 14, 17}, {Text, "x", 22, 27}, {Number, "1.5", 28, 31}, {Sign, ",", 31, 32}}
	l, e := Scan(` AB 'c'''e'\n'"d"/**/ $$x$$ 1.5,`)
	if e != api.OK || !slices.Equal(l, want) {
		t.Error(l, e)
	}
	want = []Token{{Number, "1", 0, 1}, {Word, "e", 1, 2}, {Sign, "+", 2, 3}, {Number, "1E-5", 4, 8}}
	if l, e := Scan("1E+ 1E-5"); e != api.OK || !slices.Equal(l, want) {
		t.Error(l, e)
	}
}

// S1: what is wrong; too long is told ahead of it.
func TestErrors(t *testing.T) {
	nest := func(n int) string { return strings.Repeat("/*", n) + strings.Repeat("*/", n) }
	for _, c := range []struct {
		s string
		e api.Errno
	}{
		{strings.Repeat(" ", api.MaxText), api.OK},
		{strings.Repeat(" ", api.MaxText+1), api.ErrLong},
		{"'" + strings.Repeat("\x00", api.MaxText), api.ErrLong},
		{"a\x00", api.ErrForm},
		{"\x00", api.ErrForm},
		{"\x00a", api.ErrForm},
		{"--\x00", api.ErrForm},
		{"'\x00'", api.ErrForm},
		{"/*", api.ErrForm},
		{"/*/", api.ErrForm},
		{"/*/**/", api.ErrForm},
		{"a /* b", api.ErrForm},
		{nest(MaxNest), api.OK},
		{nest(MaxNest + 1), api.ErrForm},
		{nest(MaxNest) + nest(MaxNest), api.OK},
		{`"`, api.ErrForm},
		{`""`, api.ErrForm},
		{`"" a`, api.ErrForm},
		{`"""`, api.ErrForm},
		{`"a`, api.ErrForm},
		{`"a""`, api.ErrForm},
		{"'", api.ErrForm},
		{"'''", api.ErrForm},
		{"a 'b", api.ErrForm},
		{`E'a\'`, api.ErrForm},
		{`E'\`, api.ErrForm},
		{"$$", api.ErrForm},
		{"$$a$", api.ErrForm},
		{"$a$b$A$", api.ErrForm},
	} {
		if l, e := Scan(c.s); e != c.e || len(l) != 0 {
			t.Errorf("Scan(%.30q) = %v, %v", c.s, l, e)
		}
	}
}

func TestFold(t *testing.T) {
	for a, b := range map[string]string{"": "", "AZaz09_@[`{": "azaz09_@[`{", "\xc3\x9c": "\xc3\x9c", "Set": "set"} {
		if Fold(a) != b {
			t.Errorf("Fold(%q) = %q", a, Fold(a))
		}
	}
}

// S2: tokens as text.
func TestFields(t *testing.T) {
	for _, c := range []struct {
		l []Token
		s string
	}{
		{nil, ""},
		{[]Token{w("a")}, "a"},
		{[]Token{w("set"), q(`a"b`), o("="), tx(`it's\`), n("1.5")}, `set "a""b" = 'it''s\' 1.5`},
		{[]Token{q(""), tx("")}, `"" ''`},
		{[]Token{w(""), w("")}, " "},
	} {
		if s := Fields(c.l); s != c.s {
			t.Errorf("Fields(%v) = %q", c.l, s)
		}
	}
}

// S3: scanned again, the same tokens.
func TestAgain(t *testing.T) {
	r := rand.New(rand.NewSource(1))
	parts := []string{"a", "E", "'", "''", `"`, "$", "$a$", "/*", "*/", "--", "\n", " ", "1", ".", "e", "+", "-", "\\", "n", "\x80", ";"}
	right := 0
	for range 100000 {
		s := ""
		for range r.Intn(12) {
			s += parts[r.Intn(len(parts))]
		}
		l, e := Scan(s)
		if e != api.OK {
			continue
		}
		right++
		again, e := Scan(Fields(l))
		if e != api.OK || !slices.Equal(bare(l), bare(again)) {
			t.Fatalf("%q: %v, then %q: %v %v", s, l, Fields(l), again, e)
		}
		end := 0
		for _, k := range l {
			if k.From < end || k.To <= k.From || k.To > len(s) {
				t.Fatalf("%q: %v", s, l)
			}
			end = k.To
		}
	}
	if right < 1000 {
		t.Error("few were right", right)
	}
}
