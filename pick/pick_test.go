package pick

import (
	"math/rand"
	"slices"
	"testing"

	"taxirank/catalog"
	"taxirank/recon"
	"taxirank/value"
)

func settings() []catalog.Setting {
	return []catalog.Setting{
		{Name: "level", Type: value.Type{Kind: value.Enum, Names: []string{"low", "high"}}, Default: "low"},
		{Name: "mem", Type: value.Type{Kind: value.Int, Least: "0", Most: "100"}, Default: "5"},
		{Name: "strict", Type: value.Type{Kind: value.Bool}, Default: "on"},
	}
}

func list(l ...string) []catalog.Pair {
	var out []catalog.Pair
	for i := 0; i < len(l); i += 2 {
		out = append(out, catalog.Pair{Name: l[i], Value: l[i+1]})
	}
	return out
}

// P1: the closest one first, and of equal ones the lesser Id.
func TestRank(t *testing.T) {
	mem, both := list("mem", "7"), list("level", "high", "mem", "7")
	for i, k := range []struct {
		l    []Idle
		want []catalog.Pair
		ids  []int
	}{
		{nil, nil, nil},
		{[]Idle{{1, mem}, {2, nil}}, nil, []int{2, 1}},
		{[]Idle{{1, mem}, {2, nil}}, mem, []int{1, 2}},
		{[]Idle{{3, nil}, {1, nil}, {2, nil}}, mem, []int{1, 2, 3}},
		{[]Idle{{-3, both}, {1, nil}, {2, mem}, {-1, nil}}, mem, []int{2, -3, -1, 1}},
		{[]Idle{{5, both}, {5, nil}, {4, both}}, nil, []int{5, 4, 5}},
		{[]Idle{{1, list("mem", "5")}, {0, mem}}, nil, []int{1, 0}},
	} {
		if got := Rank(settings(), k.l, k.want); !slices.Equal(got, k.ids) {
			t.Error(i, got)
		}
		id, ok := Best(settings(), k.l, k.want)
		if len(k.ids) == 0 && (id != 0 || ok) || len(k.ids) > 0 && (id != k.ids[0] || !ok) {
			t.Error(i, id, ok)
		}
	}
}

// P2, P3: no idle one is closer than the best; what is handed in stays as it is.
func TestBest(t *testing.T) {
	r, c := rand.New(rand.NewSource(1)), settings()
	some := func() []catalog.Pair {
		return list("level", []string{"low", "high"}[r.Intn(2)], "mem", []string{"5", "7"}[r.Intn(2)], "strict", []string{"on", "off"}[r.Intn(2)])
	}
	for range 3000 {
		var l []Idle
		for range 1 + r.Intn(5) {
			l = append(l, Idle{r.Intn(4), some()})
		}
		before, want := slices.Clone(l), some()
		id, ok := Best(c, l, want)
		least := 99
		for i, k := range l {
			least = min(least, recon.Distance(c, k.Vars, want))
			if before[i].Id != k.Id {
				t.Fatal("changed", l)
			}
		}
		at := slices.IndexFunc(l, func(k Idle) bool { return k.Id == id && recon.Distance(c, k.Vars, want) == least })
		if !ok || at < 0 {
			t.Fatal(l, want, id)
		}
		for _, k := range l {
			if recon.Distance(c, k.Vars, want) == least && k.Id < id {
				t.Fatal(l, want, id)
			}
		}
	}
}
