package recon

import (
	"math/rand"
	"slices"
	"testing"

	"taxirank/api"
	"taxirank/catalog"
	"taxirank/parse"
	"taxirank/value"
	"taxirank/vars"
)

func settings() []catalog.Setting {
	return []catalog.Setting{
		{Name: "level", Type: value.Type{Kind: value.Enum, Names: []string{"low", "mid", "high"}}, Default: "mid"},
		{Name: "mem", Type: value.Type{Kind: value.Int, Least: "0", Most: "100"}, Default: "5"},
		{Name: "strict", Type: value.Type{Kind: value.Bool}, Default: "on"},
	}
}

func list(l ...string) []catalog.Pair {
	var out []catalog.Pair
	for i := 0; i < len(l); i += 2 {
		out = append(out, catalog.Pair{Name: l[i], Value: l[i+1]})
	}
	return out
}

func set(name, v string) parse.Command {
	return parse.Command{Kind: parse.Set, Name: name, Value: v}
}

func reset(name string) parse.Command { return parse.Command{Kind: parse.Reset, Name: name} }

// R1: a Set or a Reset for each name on which they differ, in the catalog's order.
func TestDiff(t *testing.T) {
	for _, k := range []struct {
		a, b []catalog.Pair
		want []parse.Command
	}{
		{nil, nil, nil},
		{list("mem", "7"), list("mem", "7"), nil},
		{list("mem", "7"), list("level", "low"), []parse.Command{set("level", "low"), reset("mem")}},
		{nil, list("strict", "off", "mem", "7"), []parse.Command{set("mem", "7"), set("strict", "off")}},
		{list("mem", "7"), list("mem", "8"), []parse.Command{set("mem", "8")}},
		{list("mem", "7"), list("mem", "5"), []parse.Command{reset("mem")}},
		{list("mem", "5"), nil, nil},
		{list("other", "1"), nil, nil},
	} {
		if got := Diff(settings(), k.a, k.b); !slices.Equal(got, k.want) {
			t.Error(k.a, k.b, got)
		}
		if n := Distance(settings(), k.a, k.b); n != len(k.want) {
			t.Error(k.a, k.b, n)
		}
	}
	if n := Distance(nil, list("mem", "7"), nil); n != 0 {
		t.Error(n)
	}
}

// R2: commands done one behind the other; the first error.
func TestApply(t *testing.T) {
	start := list("mem", "7")
	for _, k := range []struct {
		l    []parse.Command
		want []catalog.Pair
		e    api.Errno
	}{
		{nil, start, api.OK},
		{[]parse.Command{set("level", "LOW"), reset("mem")}, list("level", "low"), api.OK},
		{[]parse.Command{{Kind: parse.Begin}, set("mem", "8")}, start, api.OK},
		{[]parse.Command{{Kind: parse.Begin}, set("mem", "8"), {Kind: parse.Commit}}, list("mem", "8"), api.OK},
		{[]parse.Command{{Kind: parse.ResetAll}}, nil, api.OK},
		{[]parse.Command{{Kind: parse.Empty}, {Kind: parse.Show, Name: "mem"}, {Kind: parse.Other}}, start, api.OK},
		{[]parse.Command{set("mem", "101"), set("other", "1")}, nil, api.ErrValue},
		{[]parse.Command{set("other", "1"), set("mem", "101")}, nil, api.ErrName},
		{[]parse.Command{{Kind: parse.Savepoint}}, nil, api.ErrState},
		{[]parse.Command{{Kind: 'z'}}, nil, api.ErrForm},
		{[]parse.Command{{Kind: parse.Begin}, {Kind: parse.Other, Name: "fail"}, {Kind: parse.Commit}}, nil, api.ErrArg},
	} {
		if got, e := Apply(settings(), start, k.l); !slices.Equal(got, k.want) || e != k.e {
			t.Error(k.l, got, e)
		}
	}
	got, _ := Apply(settings(), start, nil)
	got[0].Value = "spoilt"
	if start[0].Value != "7" {
		t.Error("the answer is not new")
	}
}

// states is every state in its form.
func states() [][]catalog.Pair {
	var out [][]catalog.Pair
	for _, level := range []string{"low", "mid", "high"} {
		for _, mem := range []string{"5", "7", "8"} {
			for _, strict := range []string{"on", "off"} {
				l, _ := vars.Clean(settings(), list("level", level, "mem", mem, "strict", strict))
				out = append(out, l)
			}
		}
	}
	return out
}

// R3: what Diff tells makes of one the other, and nothing shorter does; the distance is one.
func TestWhatFollows(t *testing.T) {
	c := settings()
	all := states()
	for _, a := range all {
		for _, b := range all {
			l := Diff(c, a, b)
			if got, e := Apply(c, a, l); e != api.OK || !slices.Equal(got, b) || len(l) != Distance(c, a, b) {
				t.Fatal(a, b, l, got, e)
			}
			for i := range l {
				if got, _ := Apply(c, a, slices.Delete(slices.Clone(l), i, i+1)); slices.Equal(got, b) {
					t.Fatal(a, b, l, i)
				}
			}
			if Distance(c, a, b) != Distance(c, b, a) || Distance(c, a, b) == 0 != slices.Equal(a, b) {
				t.Fatal(a, b)
			}
			for _, m := range all {
				if Distance(c, a, m)+Distance(c, m, b) < Distance(c, a, b) {
					t.Fatal(a, m, b)
				}
			}
		}
	}
}

// R3: no row of Sets and Resets that is shorter does.
func TestShortest(t *testing.T) {
	r, c, all := rand.New(rand.NewSource(1)), settings(), states()
	moves := []parse.Command{reset("level"), reset("mem"), reset("strict"), set("level", "low"), set("level", "high"), set("mem", "7"), set("mem", "8"), set("strict", "off"), set("strict", "on")}
	for range 20000 {
		a := all[r.Intn(len(all))]
		var l []parse.Command
		for range r.Intn(4) {
			l = append(l, moves[r.Intn(len(moves))])
		}
		b, e := Apply(c, a, l)
		if e != api.OK || Distance(c, a, b) > len(l) {
			t.Fatal(a, l, b, e)
		}
	}
}
