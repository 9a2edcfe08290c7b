package vars

import (
	"math/rand"
	"slices"
	"testing"

	"taxirank/api"
	"taxirank/catalog"
	"taxirank/value"
)

type pairs = []catalog.Pair

// list is names and values, in turn.
func list(l ...string) pairs {
	var out pairs
	for i := 0; i < len(l); i += 2 {
		out = append(out, catalog.Pair{Name: l[i], Value: l[i+1]})
	}
	return out
}

func settings() []catalog.Setting {
	return []catalog.Setting{
		{Name: "level", Type: value.Type{Kind: value.Enum, Names: []string{"low", "high"}}, Default: "low"},
		{Name: "mem", Type: value.Type{Kind: value.Int, Least: "0", Most: "100"}, Default: "5"},
		{Name: "note", Type: value.Type{Kind: value.Text}, Default: ""},
	}
}

func TestRight(t *testing.T) {
	for _, l := range []pairs{nil, list("a", "1"), list("", ""), list("", "", "a", ""), list("A", "", "a", "x", "a.b", "", "b", "")} {
		if !Right(l) {
			t.Error("not right", l)
		}
	}
	for _, l := range []pairs{list("a", "1", "a", "2"), list("b", "", "a", ""), list("a", "", "c", "", "b", ""), list("a", "", "A", "")} {
		if Right(l) {
			t.Error("right", l)
		}
	}
}

func TestGet(t *testing.T) {
	l := list("b", "1", "a", "2", "b", "3")
	for name, want := range map[string]string{"a": "2", "b": "1"} {
		if v, ok := Get(l, name); v != want || !ok {
			t.Error(name, v, ok)
		}
	}
	for _, name := range []string{"", "A", "c"} {
		if v, ok := Get(l, name); v != "" || ok {
			t.Error(name, v, ok)
		}
	}
}

// V1: one more, one less, all of others.
func TestPutDropOver(t *testing.T) {
	l := list("b", "1", "d", "2", "f", "3")
	for _, c := range []struct {
		name string
		put  pairs
		drop pairs
	}{
		{"a", list("a", "x", "b", "1", "d", "2", "f", "3"), l},
		{"b", list("b", "x", "d", "2", "f", "3"), list("d", "2", "f", "3")},
		{"c", list("b", "1", "c", "x", "d", "2", "f", "3"), l},
		{"d", list("b", "1", "d", "x", "f", "3"), list("b", "1", "f", "3")},
		{"f", list("b", "1", "d", "2", "f", "x"), list("b", "1", "d", "2")},
		{"g", list("b", "1", "d", "2", "f", "3", "g", "x"), l},
		{"", list("", "x", "b", "1", "d", "2", "f", "3"), l},
	} {
		if got := Put(l, c.name, "x"); !slices.Equal(got, c.put) {
			t.Error(c.name, got)
		}
		if got := Drop(l, c.name); !slices.Equal(got, c.drop) {
			t.Error(c.name, got)
		}
	}
	for _, c := range []struct{ a, b, want pairs }{
		{nil, nil, nil},
		{l, nil, l},
		{nil, l, l},
		{l, l, l},
		{l, list("a", "9", "d", "8", "g", "7"), list("a", "9", "b", "1", "d", "8", "f", "3", "g", "7")},
		{list("a", "9", "d", "8", "g", "7"), l, list("a", "9", "b", "1", "d", "2", "f", "3", "g", "7")},
	} {
		if got := Over(c.a, c.b); !slices.Equal(got, c.want) {
			t.Error(c.a, c.b, got)
		}
	}
}

// P3: what is handed in, and what lies behind it, is not written into; what is answered is new.
func TestHands(t *testing.T) {
	whole := list("b", "1", "d", "2", "f", "3", "z", "behind")
	l := whole[:3]
	for i, got := range []pairs{Put(l, "g", "x"), Put(l, "b", "x"), Drop(l, "b"), Drop(l, "a"), Over(l, nil), Over(nil, l), Over(l, list("z", "9"))} {
		for k := range got {
			got[k] = catalog.Pair{}
		}
		_ = append(got, catalog.Pair{})
		if !slices.Equal(whole, list("b", "1", "d", "2", "f", "3", "z", "behind")) {
			t.Fatal(i, whole)
		}
	}
}

// V2: values, by vars or by default.
func TestValue(t *testing.T) {
	c, l := settings(), list("mem", "7", "other", "1")
	for name, want := range map[string]string{"mem": "7", "level": "low", "note": ""} {
		if v, e := Value(c, l, name); v != want || e != api.OK {
			t.Error(name, v, e)
		}
	}
	for _, name := range []string{"other", "", "Mem"} {
		if v, e := Value(c, l, name); v != "" || e != api.ErrName {
			t.Error(name, v, e)
		}
	}
}

func TestClean(t *testing.T) {
	c := append(settings(), catalog.Setting{Name: "zbad"})
	for _, k := range []struct {
		l, want pairs
		e       api.Errno
	}{
		{nil, nil, api.OK},
		{list("level", "HIGH", "mem", "+07"), list("level", "high", "mem", "7"), api.OK},
		{list("level", "LOW", "mem", "05", "note", "x"), list("note", "x"), api.OK},
		{list("level", "x", "other", "1"), nil, api.ErrValue},
		{list("level", "high", "other", "1", "zbad", "1"), nil, api.ErrName},
		{list("zbad", "1"), nil, api.ErrArg},
	} {
		if got, e := Clean(c, k.l); !slices.Equal(got, k.want) || e != k.e {
			t.Error(k.l, got, e)
		}
	}
}

func TestApart(t *testing.T) {
	c := settings()
	for _, k := range []struct {
		a, b pairs
		want []string
	}{
		{nil, nil, nil},
		{list("mem", "7"), nil, []string{"mem"}},
		{list("mem", "5"), nil, nil},
		{list("mem", "7"), list("mem", "7"), nil},
		{list("mem", "7", "note", "x"), list("level", "high", "mem", "8"), []string{"level", "mem", "note"}},
		{list("other", "7"), nil, nil},
	} {
		if got := Apart(c, k.a, k.b); !slices.Equal(got, k.want) {
			t.Error(k.a, k.b, got)
		}
		if got := Apart(c, k.b, k.a); !slices.Equal(got, k.want) {
			t.Error(k.b, k.a, got)
		}
	}
	if got := Apart(nil, list("a", "b"), nil); len(got) != 0 {
		t.Error(got)
	}
}

// V3: what is put is got, what is dropped is not; cleaned vars tell the same.
func TestWhatFollows(t *testing.T) {
	r, c := rand.New(rand.NewSource(1)), settings()
	names := []string{"level", "mem", "note"}
	values := map[string][]string{"level": {"low", "HIGH"}, "mem": {"5", "05", "7", "100"}, "note": {"", "x"}}
	for range 2000 {
		var l pairs
		for range r.Intn(6) {
			name := names[r.Intn(3)]
			v := values[name][r.Intn(len(values[name]))]
			before := l
			l = Put(l, name, v)
			if got, ok := Get(l, name); got != v || !ok || !Right(l) {
				t.Fatal(l, name, v)
			}
			if _, ok := Get(Drop(l, name), name); ok || !Right(Drop(l, name)) {
				t.Fatal(l, name)
			}
			if !slices.Equal(Over(before, list(name, v)), l) {
				t.Fatal(before, l)
			}
		}
		clean, e := Clean(c, l)
		if e != api.OK || len(clean) > len(l) || !Right(clean) {
			t.Fatal(l, clean, e)
		}
		for _, name := range names {
			v, _ := Value(c, l, name)
			form, _ := catalog.Canon(c, name, v)
			if w, _ := Value(c, clean, name); w != form {
				t.Fatal(l, clean, name)
			}
		}
	}
}

// P1: of what are no vars some answer, without a panic.
func TestNoVars(t *testing.T) {
	r := rand.New(rand.NewSource(2))
	for range 20000 {
		some := func() pairs {
			l := make(pairs, r.Intn(6))
			for i := range l {
				l[i].Name = string("abc"[r.Intn(3)])
			}
			return l
		}
		a, b := some(), some()
		Put(a, "b", "x")
		Drop(a, "b")
		Over(a, b)
		Apart(settings(), a, b)
		Clean(settings(), a)
	}
}
