package names

import (
	"math/rand"
	"strings"
	"testing"

	"taxirank/api"
	"taxirank/scan"
)

func takenWords() []string {
	return []string{"all", "default", "from", "local", "on", "session", "to", "off", "true", "false"}
}

// N1: names.
func TestGood(t *testing.T) {
	long := strings.Repeat("a", 63)
	for _, s := range append(takenWords(), "a", "z", "az", "_", "a09", "a1_b", "a.b", "_1._2", "app.to", "set", long, long[:31]+"."+long[:31]) {
		if !Good(s) {
			t.Errorf("not good: %q", s)
		}
	}
	for _, s := range []string{"", ".", "a.", ".a", "a..b", "a.b.c", "1a", "a.1b", "A", "a b", "a-b", "\x80", "a\x00", "a$", long + "a", long[:32] + "." + long[:31]} {
		if Good(s) {
			t.Errorf("good: %q", s)
		}
	}
}

// N1: identifiers and values.
func TestIdentAndLiteral(t *testing.T) {
	long := strings.Repeat("a", 100)
	for s, want := range map[string][2]string{
		"":      {`""`, `''`},
		"a":     {`a`, `'a'`},
		"_a9":   {`_a9`, `'_a9'`},
		"to":    {`"to"`, `'to'`},
		"set":   {`set`, `'set'`},
		"it's":  {`"it's"`, `'it''s'`},
		`a"b`:   {`"a""b"`, `'a"b'`},
		`"`:     {`""""`, `'"'`},
		`''`:    {`"''"`, `''''''`},
		"a.b":   {`"a.b"`, `'a.b'`},
		"Ab":    {`"Ab"`, `'Ab'`},
		"9":     {`"9"`, `'9'`},
		`\`:     {`"\"`, `'\'`},
		"\x80":  {"\"\x80\"", "'\x80'"},
		"a\x00": {"\"a\x00\"", "'a\x00'"},
		long:    {long, "'" + long + "'"},
	} {
		if got := Ident(s); got != want[0] {
			t.Errorf("Ident(%q) = %q", s, got)
		}
		if got := Literal(s); got != want[1] {
			t.Errorf("Literal(%q) = %q", s, got)
		}
	}
	for _, s := range takenWords() {
		if Ident(s) != `"`+s+`"` {
			t.Error(s, Ident(s))
		}
	}
}

// N2: the name that tokens begin with.
func TestTake(t *testing.T) {
	for _, c := range []struct {
		s    string
		name string
		n    int
	}{
		{"", "", 0},
		{"a", "a", 1},
		{"Mem = 5", "mem", 1},
		{"a b", "a", 1},
		{"App.To = 5", "app.to", 3},
		{`"App" . "X"`, "app.x", 3},
		{`a.b.c`, "a.b", 3},
		{`"a.b"`, "a.b", 1},
		{`"a.b".c`, "", 0},
		{`"A b"`, "", 0},
		{`a."B c"`, "", 0},
		{`a."1"`, "", 0},
		{"a.", "a", 1},
		{"a.=", "a", 1},
		{"a.'b'", "a", 1},
		{"a.5", "a", 1},
		{".a", "", 0},
		{"5", "", 0},
		{"1e", "", 0},
		{"1e.x", "", 0},
		{"a.1e", "a", 1},
		{"'a'", "", 0},
		{"= a", "", 0},
		{"a$", "", 0},
		{"\x80", "", 0},
		{"to", "to", 1},
		{strings.Repeat("a", 63), strings.Repeat("a", 63), 1},
		{strings.Repeat("a", 64), "", 0},
		{strings.Repeat("a", 62) + ".b", "", 0},
	} {
		l, e := scan.Scan(c.s)
		if e != api.OK {
			t.Fatal(c.s, e)
		}
		if name, n := Take(l); name != c.name || n != c.n {
			t.Errorf("Take(%q) = %q, %d", c.s, name, n)
		}
	}
	behind, _ := scan.Scan("1e.x")
	if name, n := Take(behind[1:]); name != "e.x" || n != 3 {
		t.Error("an e behind a number is a word of its own", name, n)
	}
	short := []scan.Token{{Kind: scan.Word, Text: "a"}, {Kind: scan.Sign, Text: "."}, {Kind: scan.Word, Text: "b"}}
	if name, n := Take(short[:2]); name != "a" || n != 1 {
		t.Error("behind the length of a list is nothing", name, n)
	}
}

// N3: scanned again, an identifier is one word or name, a value one text.
func TestScanned(t *testing.T) {
	r := rand.New(rand.NewSource(1))
	for range 50000 {
		b := make([]byte, 1+r.Intn(6))
		for i := range b {
			b[i] = "aA_1'\"\\.$ e-/*;\n\x80"[r.Intn(17)]
		}
		s := string(b)
		l, e := scan.Scan(Ident(s))
		if e != api.OK || len(l) != 1 || l[0].Text != s || l[0].Kind != scan.Word && l[0].Kind != scan.Name {
			t.Fatalf("%q: %v %v", s, l, e)
		}
		l, e = scan.Scan(Literal(s))
		if e != api.OK || len(l) != 1 || l[0].Text != s || l[0].Kind != scan.Text {
			t.Fatalf("%q: %v %v", s, l, e)
		}
	}
}
