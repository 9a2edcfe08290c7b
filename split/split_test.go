package split

import (
	"slices"
	"strings"
	"testing"

	"taxirank/api"
	"taxirank/scan"
)

func texts(s string, l []Statement) []string {
	var out []string
	for _, st := range l {
		out = append(out, s[st.From:st.To])
	}
	return out
}

// P1: statements, and where they stand.
func TestSplit(t *testing.T) {
	for _, c := range []struct {
		s string
		l []string
	}{
		{"", nil},
		{" ;;; /*;*/ ; --;", nil},
		{"a ; ; b;", []string{"a", "b"}},
		{"a", []string{"a"}},
		{" a b ", []string{"a b"}},
		{";a;", []string{"a"}},
		{"select ';' ; set \";\" /*;*/ = $$;$$ -- ;\n;x", []string{"select ';'", "set \";\" /*;*/ = $$;$$", "x"}},
		{"';';", []string{"';'"}},
		{"1e;1e+;1e+5", []string{"1e", "1e+", "1e+5"}},
	} {
		l, e := Split(c.s)
		if e != api.OK || !slices.Equal(texts(c.s, l), c.l) {
			t.Errorf("Split(%q) = %q, %v", c.s, texts(c.s, l), e)
		}
		for _, st := range l {
			if len(st.Tokens) == 0 || st.Tokens[0].From != st.From || st.Tokens[len(st.Tokens)-1].To != st.To {
				t.Error(c.s, st)
			}
		}
	}
}

func TestSplitTokens(t *testing.T) {
	l, e := Split("a; b 1")
	if e != api.OK || len(l) != 2 {
		t.Fatal(l, e)
	}
	want := []scan.Token{{Kind: scan.Word, Text: "b", From: 3, To: 4}, {Kind: scan.Number, Text: "1", From: 5, To: 6}}
	if !slices.Equal(l[1].Tokens, want) {
		t.Error(l[1])
	}
	st, ok, e := One("1e;")
	apart := []scan.Token{{Kind: scan.Number, Text: "1", From: 0, To: 1}, {Kind: scan.Word, Text: "e", From: 1, To: 2}}
	if !ok || e != api.OK || !slices.Equal(st.Tokens, apart) {
		t.Error("an e without a digit behind is no part of a number", st, ok, e)
	}
	_ = append(l[0].Tokens, scan.Token{Text: "other"})
	l[0].Tokens[0].Text = "other"
	if !slices.Equal(l[1].Tokens, want) {
		t.Error("two lists share something", l[1])
	}
}

// P1: scan's errors.
func TestErrors(t *testing.T) {
	for s, want := range map[string]api.Errno{"a; 'b": api.ErrForm, "a;\x00": api.ErrForm, strings.Repeat(";", 2001): api.ErrLong} {
		if l, e := Split(s); len(l) != 0 || e != want {
			t.Errorf("%.20q %v %v", s, l, e)
		}
		if st, ok, e := One(s); len(st.Tokens) != 0 || st.To != 0 || ok || e != want {
			t.Errorf("%.20q %v %v %v", s, st, ok, e)
		}
	}
}

func TestOne(t *testing.T) {
	st, ok, e := One("; a b ;")
	if !ok || e != api.OK || st.From != 2 || st.To != 5 || len(st.Tokens) != 2 {
		t.Error(st, ok, e)
	}
	for _, s := range []string{"", ";", "a;b", "a;b;c"} {
		if st, ok, e := One(s); len(st.Tokens) != 0 || st.From != 0 || st.To != 0 || ok || e != api.OK {
			t.Errorf("One(%q) = %v %v %v", s, st, ok, e)
		}
	}
}

// P2: the first tokens, which must be words.
func TestFirst(t *testing.T) {
	st, _, _ := One(`SET "local" x 'y'`)
	for _, c := range []struct {
		words []string
		ok    bool
	}{
		{nil, true},
		{[]string{"set"}, true},
		{[]string{"SET"}, false},
		{[]string{"set", "local"}, false},
		{[]string{"x"}, false},
		{[]string{"set", "local", "x", "y"}, false},
		{[]string{"set", "local", "x", "y", "z"}, false},
	} {
		if First(st, c.words...) != c.ok {
			t.Error(c.words)
		}
	}
	st, _, _ = One("start transaction now")
	if !First(st, "start", "transaction") || First(st, "transaction", "start") || !First(st, "start", "transaction", "now") {
		t.Error(st)
	}
	if !First(Statement{}) || First(Statement{}, "a") {
		t.Error("of nothing")
	}
}

// P3: of two texts with a ; between, the statements of both.
func TestBoth(t *testing.T) {
	all := []string{"", "a", "a;b", ";a", "a;", "'x' ;; y", "/*c*/"}
	for _, a := range all {
		for _, b := range all {
			la, _ := Split(a)
			lb, _ := Split(b)
			l, e := Split(a + ";" + b)
			want := append(texts(a, la), texts(b, lb)...)
			if e != api.OK || !slices.Equal(texts(a+";"+b, l), want) {
				t.Errorf("%q %q: %v", a, b, l)
			}
		}
	}
}
