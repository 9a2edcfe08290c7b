package value

import (
	"slices"
	"strings"
	"testing"

	"taxirank/api"
)

func same(a, b Type) bool {
	return a.Kind == b.Kind && a.Least == b.Least && a.Most == b.Most && slices.Equal(a.Names, b.Names)
}

var (
	boolean = Type{Kind: Bool}
	small   = Type{Kind: Int, Least: "-5", Most: "100"}
	wide    = Type{Kind: Int, Least: "-999999999", Most: "999999999"}
	ratio   = Type{Kind: Real, Least: "-0.5", Most: "Infinity"}
	whole1  = Type{Kind: Real, Least: "-Infinity", Most: "NaN"}
	level   = Type{Kind: Enum, Names: []string{"low", "high"}}
	text    = Type{Kind: Text}
)

func rightOnes() map[string]Type {
	return map[string]Type{
		"bool":                      boolean,
		"int -5 100":                small,
		"int -999999999 999999999":  wide,
		"int 0 0":                   {Kind: Int, Least: "0", Most: "0"},
		"real -0.5 Infinity":        ratio,
		"real -Infinity NaN":        whole1,
		"real NaN NaN":              {Kind: Real, Least: "NaN", Most: "NaN"},
		"real 0 -0":                 {Kind: Real, Least: "0", Most: "-0"},
		"enum low|high":             level,
		"enum a":                    {Kind: Enum, Names: []string{"a"}},
		"enum a|b|c|d|e|f|g|h":      {Kind: Enum, Names: []string{"a", "b", "c", "d", "e", "f", "g", "h"}},
		"enum abcdefghijklmnopqrst": {Kind: Enum, Names: []string{"abcdefghijklmnopqrst"}},
		"text":                      text,
	}
}

func wrongOnes() []Type {
	return []Type{
		{}, {Kind: 'x'}, {Kind: 'B'},
		{Kind: Bool, Least: "0"}, {Kind: Bool, Most: "0"}, {Kind: Bool, Names: []string{"a"}},
		{Kind: Int}, {Kind: Int, Least: "0"}, {Kind: Int, Most: "0"}, {Kind: Int, Least: "1", Most: "0"},
		{Kind: Int, Least: "00", Most: "1"}, {Kind: Int, Least: "-0", Most: "1"}, {Kind: Int, Least: "+0", Most: "1"}, {Kind: Int, Least: "0", Most: "01"},
		{Kind: Int, Least: "0", Most: "1000000000"}, {Kind: Int, Least: "0", Most: "1", Names: []string{"a"}}, {Kind: Int, Least: "0", Most: "1.0"}, {Kind: Int, Least: "a", Most: "b"},
		{Kind: Real}, {Kind: Real, Least: "1", Most: "0"}, {Kind: Real, Least: "NaN", Most: "0"}, {Kind: Real, Least: "0.0", Most: "1"}, {Kind: Real, Least: "0", Most: "inf"}, {Kind: Real, Least: "0", Most: "1", Names: []string{"a"}},
		{Kind: Enum}, {Kind: Enum, Names: []string{""}}, {Kind: Enum, Names: []string{"a", "a"}}, {Kind: Enum, Names: []string{"A"}}, {Kind: Enum, Names: []string{"a1"}}, {Kind: Enum, Names: []string{"a|b"}},
		{Kind: Enum, Names: []string{"abcdefghijklmnopqrstu"}}, {Kind: Enum, Names: strings.Split("abcdefghi", "")}, {Kind: Enum, Least: "a", Names: []string{"a"}}, {Kind: Enum, Most: "a", Names: []string{"a"}},
		{Kind: Text, Least: "a"}, {Kind: Text, Most: "a"}, {Kind: Text, Names: []string{"a"}},
	}
}

// V1, V2, V3: types that are right, and how they are written.
func TestRight(t *testing.T) {
	for s, k := range rightOnes() {
		if !Right(k) {
			t.Error("not right", k)
		}
		if p, e := Print(k); p != s || e != api.OK {
			t.Errorf("Print(%v) = %q, %v", k, p, e)
		}
		if p, e := Parse(s); !same(p, k) || e != api.OK {
			t.Errorf("Parse(%q) = %v, %v", s, p, e)
		}
	}
	if !Right(Type{Kind: Bool, Names: []string{}}) {
		t.Error("a list of nothing may be empty")
	}
}

func TestWrong(t *testing.T) {
	for _, k := range wrongOnes() {
		if Right(k) {
			t.Error("right", k)
		}
		if p, e := Print(k); p != "" || e != api.ErrArg {
			t.Errorf("Print(%v) = %q, %v", k, p, e)
		}
		for _, s := range []string{"1", "", "a", strings.Repeat("x", 61)} {
			if f, e := Canon(k, s); f != "" || e != api.ErrArg {
				t.Errorf("Canon(%v, %q) = %q, %v", k, s, f, e)
			}
		}
	}
}

// V2: what is not just so written.
func TestParseErrors(t *testing.T) {
	for _, s := range []string{"", " ", "Bool", "bool ", " bool", "bool 1", "int", "int ", "int 1", "int 1 0", "int 0  1", "int 0 1 ", "int 0 1 2", "int 00 1", "int +0 1",
		"real", "real 0", "real 0 inf", "real 0.0 1", "real 1 0", "enum", "enum ", "enum a|", "enum |a", "enum a|a", "enum a b", "enum A", "enum a|b|c|d|e|f|g|h|i",
		"text ", "texts", "text a", "x", "enum a\n"} {
		if k, e := Parse(s); !same(k, Type{}) || e != api.ErrForm {
			t.Errorf("Parse(%q) = %v, %v", s, k, e)
		}
	}
}

// V1, V3: values, their forms, and what is not taken.
func TestCanon(t *testing.T) {
	long := strings.Repeat("x", 60)
	for _, c := range []struct {
		k     Type
		taken map[string]string
		not   []string
	}{
		{boolean, map[string]string{"on": "on", "TRUE": "on", "Yes": "on", "1": "on", "Off": "off", "false": "off", "NO": "off", "0": "off"},
			[]string{"", "o", "t", "01", "on ", "2", "off\x00"}},
		{small, map[string]string{"+007": "7", "7": "7", "-5": "-5", "-005": "-5", "100": "100", "-0": "0", "+0": "0", "000000000": "0", "000000100": "100"},
			[]string{"", "+", "-", "-6", "101", "0000000000", "1.0", " 1", "1 ", "++1", "+-1", "1e1", "a", "9999999999999999999999", "1_0"}},
		{wide, map[string]string{"999999999": "999999999", "-999999999": "-999999999"}, []string{"1000000000", "-1000000000"}},
		{ratio, map[string]string{"-.5": "-0.5", "+01.50": "1.5", "inf": "Infinity", "-0.0": "-0"}, []string{"-.500001", "-inf", "nan", "", "1e1", "x"}},
		{whole1, map[string]string{"nan": "NaN", "-INF": "-Infinity"}, []string{"-nan"}},
		{Type{Kind: Real, Least: "0", Most: "1"}, map[string]string{"-0": "-0", "1.0": "1"}, []string{"1.000001", "-.000001", "nan"}},
		{level, map[string]string{"low": "low", "HIGH": "high", "Low": "low"}, []string{"", "lo", "low ", "low|high", "other"}},
		{text, map[string]string{"": "", "it's": "it's", " A\n": " A\n", "\xff": "\xff", long: long}, []string{"a\x00", "\x00", long + "x"}},
	} {
		for s, want := range c.taken {
			f, e := Canon(c.k, s)
			if f != want || e != api.OK {
				t.Errorf("Canon(%v, %q) = %q, %v", c.k, s, f, e)
			}
			if g, e := Canon(c.k, f); g != f || e != api.OK {
				t.Errorf("Canon(%v, %q) = %q, %v", c.k, f, g, e)
			}
		}
		for _, s := range append(c.not, strings.Repeat("0", 61), strings.Repeat(" ", 61)) {
			if f, e := Canon(c.k, s); f != "" || e != api.ErrValue {
				t.Errorf("Canon(%v, %q) = %q, %v", c.k, s, f, e)
			}
		}
	}
}
