package catalog

import (
	"fmt"
	"reflect"
	"strings"
	"testing"

	"taxirank/api"
	"taxirank/value"
)

var (
	mem    = Setting{Name: "mem", Type: value.Type{Kind: value.Int, Least: "0", Most: "100"}, Default: "5", Report: true}
	level  = Setting{Name: "level", Type: value.Type{Kind: value.Enum, Names: []string{"low", "high"}}, Default: "low"}
	note   = Setting{Name: "app.note", Type: value.Type{Kind: value.Text}, Default: "it's = ' report", Report: true}
	ratio  = Setting{Name: "ratio", Type: value.Type{Kind: value.Real, Least: "-1", Most: "NaN"}, Default: "0.5"}
	strict = Setting{Name: "strict", Type: value.Type{Kind: value.Bool}, Default: "off"}
)

const all = "app.note: text = 'it''s = '' report' report\nlevel: enum low|high = 'low'\nmem: int 0 100 = '5' report\nratio: real -1 NaN = '0.5'\nstrict: bool = 'off'\n"

func whole() []Setting { return []Setting{note, level, mem, ratio, strict} }

// many is n settings.
func many(n int) []Setting {
	var c []Setting
	for i := range n {
		c = append(c, Setting{Name: fmt.Sprintf("s%02d", i), Type: value.Type{Kind: value.Bool}, Default: "on"})
	}
	return c
}

func with(s Setting, f func(*Setting)) Setting {
	f(&s)
	return s
}

func wrongCatalogs() [][]Setting {
	one := func(s Setting, f func(*Setting)) []Setting { return []Setting{with(s, f)} }
	return [][]Setting{
		{mem, mem}, {mem, level}, {level, mem, mem}, {{}}, many(21),
		one(mem, func(s *Setting) { s.Name = "" }),
		one(mem, func(s *Setting) { s.Name = "Mem" }),
		one(mem, func(s *Setting) { s.Name = "a.b.c" }),
		one(mem, func(s *Setting) { s.Name = strings.Repeat("a", 64) }),
		one(mem, func(s *Setting) { s.Type.Most = "" }),
		one(mem, func(s *Setting) { s.Type = value.Type{} }),
		one(mem, func(s *Setting) { s.Default = "" }),
		one(mem, func(s *Setting) { s.Default = "05" }),
		one(mem, func(s *Setting) { s.Default = "101" }),
		one(strict, func(s *Setting) { s.Default = "true" }),
		one(level, func(s *Setting) { s.Default = "LOW" }),
		one(note, func(s *Setting) { s.Default = "a\nb" }),
		one(note, func(s *Setting) { s.Default = "\nb" }),
		one(note, func(s *Setting) { s.Default = "a\x00" }),
		one(note, func(s *Setting) { s.Default = strings.Repeat("x", 61) }),
	}
}

// C1, C3: catalogs that are right, and how they are written.
func TestRight(t *testing.T) {
	for s, c := range map[string][]Setting{
		"":                               nil,
		all:                              whole(),
		"mem: int 0 100 = '5' report\n":  {mem},
		"a: text = ''\nb: text = ''''\n": {{Name: "a", Type: value.Type{Kind: value.Text}}, {Name: "b", Type: value.Type{Kind: value.Text}, Default: "'"}},
	} {
		if !Right(c) {
			t.Error("not right", c)
		}
		if p, e := Print(c); p != s || e != api.OK {
			t.Errorf("Print = %q, %v", p, e)
		}
		if p, e := Parse(s); !reflect.DeepEqual(p, c) || e != api.OK {
			t.Errorf("Parse(%q) = %v, %v", s, p, e)
		}
	}
	if c := many(20); !Right(c) {
		t.Error("twenty are right")
	} else if s, _ := Print(c); strings.Count(s, "\n") != 20 {
		t.Error(s)
	} else if p, e := Parse(s); e != api.OK || len(p) != 20 {
		t.Error(p, e)
	}
}

func TestWrong(t *testing.T) {
	for i, c := range wrongCatalogs() {
		if Right(c) {
			t.Error("right", i, c)
		}
		if p, e := Print(c); p != "" || e != api.ErrArg {
			t.Error(i, p, e)
		}
		if w, e := With(c, nil); len(w) != 0 || e != api.ErrArg {
			t.Error(i, w, e)
		}
	}
}

// C1: what is not just so written.
func TestParseErrors(t *testing.T) {
	twentyOne := ""
	for i := range 21 {
		twentyOne += fmt.Sprintf("s%02d: bool = 'on'\n", i)
	}
	for _, s := range []string{
		"\n", "mem", "mem: bool = 'on'", "mem: bool = 'on'\n\n", "\nmem: bool = 'on'\n", "mem: bool = 'on' \n", "mem: bool = 'on'  report\n", "mem: bool = 'on' report report\n",
		"mem: bool = on\n", "mem: bool = 'on\n", "mem: bool = on'\n", "mem: bool = 'true'\n", "mem:bool = 'on'\n", "mem: bool='on'\n", "mem: bool\n", "mem: bool = \n",
		": bool = 'on'\n", "Mem: bool = 'on'\n", "mem: Bool = 'on'\n", "mem: int 0 9 = '09'\n", "a: text = '''\n", "a: text = 'a'b'\n", "a: text = ''a'\n", "a: text = 'a'' report\n",
		"b: bool = 'on'\na: bool = 'on'\n", "a: bool = 'on'\na: bool = 'on'\n", "a: bool = 'on'\r\n", " a: bool = 'on'\n", "a: text = '" + strings.Repeat("x", 61) + "'\n", twentyOne,
	} {
		if c, e := Parse(s); len(c) != 0 || e != api.ErrForm {
			t.Errorf("Parse(%q) = %v, %v", s, c, e)
		}
	}
}

// C2: looking up settings, of any list.
func TestFind(t *testing.T) {
	c := []Setting{mem, level, with(mem, func(s *Setting) { s.Default = "6" })}
	for _, s := range []Setting{mem, level} {
		if got, ok := Find(c, s.Name); !ok || !reflect.DeepEqual(got, s) {
			t.Error(got, ok)
		}
	}
	for _, name := range []string{"", "Mem", "other"} {
		if got, ok := Find(c, name); ok || !reflect.DeepEqual(got, Setting{}) {
			t.Error(name, got, ok)
		}
	}
	if _, ok := Find(nil, "mem"); ok {
		t.Error("found in nothing")
	}
}

func TestCanon(t *testing.T) {
	c := append(whole(), Setting{Name: "bad"})
	for _, k := range []struct {
		name, v, want string
		e             api.Errno
	}{
		{"mem", "+07", "7", api.OK},
		{"level", "HIGH", "high", api.OK},
		{"app.note", "a\nb", "a\nb", api.OK},
		{"mem", "101", "", api.ErrValue},
		{"mem", "", "", api.ErrValue},
		{"other", "1", "", api.ErrName},
		{"", "", "", api.ErrName},
		{"bad", "1", "", api.ErrArg},
	} {
		if f, e := Canon(c, k.name, k.v); f != k.want || e != k.e {
			t.Errorf("Canon(%s, %q) = %q, %v", k.name, k.v, f, e)
		}
	}
}

// C2, C3: other defaults; the first error is told.
func TestWith(t *testing.T) {
	c := whole()
	got, e := With(c, []Pair{{"mem", "007"}, {"strict", "YES"}, {"mem", "8"}})
	want := whole()
	want[2].Default, want[4].Default = "8", "on"
	if e != api.OK || !reflect.DeepEqual(got, want) || !Right(got) {
		t.Error(got, e)
	}
	if !reflect.DeepEqual(c, whole()) {
		t.Error("what was handed in is changed", c)
	}
	got[0].Default = "x"
	if c[0].Default == "x" {
		t.Error("the answer is not new")
	}
	for _, k := range []struct {
		l []Pair
		e api.Errno
	}{
		{[]Pair{{"other", "1"}, {"mem", "x"}}, api.ErrName},
		{[]Pair{{"mem", "x"}, {"other", "1"}}, api.ErrValue},
		{[]Pair{{"mem", "7"}, {"app.note", "a\nb"}}, api.ErrValue},
		{[]Pair{{"app.note", "a\x00"}}, api.ErrValue},
	} {
		if got, e := With(c, k.l); len(got) != 0 || e != k.e {
			t.Error(k.l, got, e)
		}
	}
	if got, e := With(nil, nil); len(got) != 0 || e != api.OK {
		t.Error(got, e)
	}
}
