package frames

import (
	"fmt"
	"math/rand"
	"slices"
	"strings"
	"testing"

	"taxirank/api"
	"taxirank/catalog"
	"taxirank/parse"
	"taxirank/value"
)

func settings() []catalog.Setting {
	return []catalog.Setting{
		{Name: "level", Type: value.Type{Kind: value.Enum, Names: []string{"low", "high"}}, Default: "low"},
		{Name: "mem", Type: value.Type{Kind: value.Int, Least: "0", Most: "100"}, Default: "5", Report: true},
		{Name: "note", Type: value.Type{Kind: value.Text}, Default: "", Report: true},
	}
}

// pairs is names and values, in turn.
func pairs(l ...string) []catalog.Pair {
	var out []catalog.Pair
	for i := 0; i < len(l); i += 2 {
		out = append(out, catalog.Pair{Name: l[i], Value: l[i+1]})
	}
	return out
}

func samePairs(a, b []catalog.Pair) bool { return slices.Equal(a, b) }

func same(a, b Session) bool {
	return a.Status == b.Status && samePairs(a.Base, b.Base) && slices.EqualFunc(a.Levels, b.Levels, func(x, y Level) bool {
		return x.Name == y.Name && samePairs(x.Set, y.Set) && samePairs(x.Local, y.Local)
	})
}

// show is a session in short: its status, what holds behind all, and its levels.
func show(s Session) string {
	list := func(l []catalog.Pair) string {
		out := []string{}
		for _, p := range l {
			out = append(out, p.Name+"="+p.Value)
		}
		return strings.Join(out, ",")
	}
	out := fmt.Sprintf("%c %s", s.Status, list(s.Base))
	for _, l := range s.Levels {
		out += fmt.Sprintf(" | %s: %s; %s", l.Name, list(l.Set), list(l.Local))
	}
	return out
}

// told is a reply in short.
func told(r Reply) string {
	if r.Err != api.OK {
		return fmt.Sprint(int(r.Err), r.Tag, r.Row)
	}
	return strings.TrimSpace(r.Tag + " " + strings.Join(r.Row, ","))
}

// run does commands, one behind the other, from a session.
func run(t *testing.T, s Session, commands ...string) (Session, Reply) {
	t.Helper()
	var r Reply
	for _, k := range commands {
		m, e := parse.Parse(k)
		if e != api.OK {
			t.Fatal(k, e)
		}
		s, r = Do(settings(), s, m)
	}
	return s, r
}

// F1, F2: what commands do, and what is told of the last one.
func TestCommands(t *testing.T) {
	for _, c := range []struct{ commands, session, reply string }{
		{"", "I ", ""},
		{"set mem = +07", "I mem=7", "SET"},
		{"set mem = 7/set mem = 05", "I ", "SET"},
		{"set note = x/set mem = 7/set level = HIGH", "I level=high,mem=7,note=x", "SET"},
		{"set mem = 101", "I ", "9[]"},
		{"set other = 1", "I ", "8[]"},
		{"begin/set mem = 7", "T  | : mem=7; ", "SET"},
		{"begin/set mem = 101", "E  | : ; ", "9[]"},
		{"begin/set other = 1", "E  | : ; ", "8[]"},
		{"set mem = 7/begin/set mem = 5", "T mem=7 | : ; ", "SET"},
		{"begin/set local mem = 8/set mem = 7", "T  | : mem=7; ", "SET"},
		{"set local mem = 7", "I ", "SET"},
		{"set local mem = 101", "I ", "9[]"},
		{"set local other = 1", "I ", "8[]"},
		{"begin/set mem = 7/set local mem = 08", "T  | : mem=7; mem=8", "SET"},
		{"set mem = 7/begin/set local mem = 5", "T mem=7 | : mem=7; mem=5", "SET"},
		{"begin/set local other = 1", "E  | : ; ", "8[]"},
		{"set mem = 7/reset mem", "I ", "RESET"},
		{"reset mem", "I ", "RESET"},
		{"reset other", "I ", "8[]"},
		{"set mem = 7/set note = x/begin/set local mem = 8/reset mem", "T mem=7,note=x | : note=x; ", "RESET"},
		{"begin/reset other", "E  | : ; ", "8[]"},
		{"set mem = 7/set note = x/reset all", "I ", "RESET"},
		{"set mem = 7/begin/set local note = x/reset all", "T mem=7 | : ; ", "RESET"},
		{"set mem = 7/discard all", "I ", "DISCARD ALL"},
		{"set mem = 7/begin/discard all", "E mem=7 | : mem=7; ", "6[]"},
		{"set mem = 7/begin", "T mem=7 | : mem=7; ", "BEGIN"},
		{"begin/set mem = 7/set local note = x/begin", "T  | : mem=7; note=x", "BEGIN"},
		{"commit", "I ", "COMMIT"},
		{"set mem = 7/commit", "I mem=7", "COMMIT"},
		{"begin/set mem = 7/set local mem = 8/commit", "I mem=7", "COMMIT"},
		{"set mem = 7/begin/set mem = 5/commit", "I ", "COMMIT"},
		{"begin/set mem = 7/fail/commit", "I ", "ROLLBACK"},
		{"rollback", "I ", "ROLLBACK"},
		{"set note = x/begin/set mem = 7/rollback", "I note=x", "ROLLBACK"},
		{"set note = x/begin/set mem = 7/fail/rollback", "I note=x", "ROLLBACK"},
		{"savepoint a", "I ", "6[]"},
		{"begin/set mem = 7/set local note = x/savepoint a", "T  | : mem=7; note=x | a: mem=7; note=x", "SAVEPOINT"},
		{"begin/savepoint a/set mem = 7/savepoint a/set local mem = 8", "T  | : ;  | a: mem=7;  | a: mem=7; mem=8", "SET"},
		{"begin/savepoint a/set mem = 7/commit", "I mem=7", "COMMIT"},
		{"release a", "I ", "6[]"},
		{"begin/release a", "E  | : ; ", "5[]"},
		{"begin/savepoint a/release A/release a", "E  | : ; ", "5[]"},
		{"begin/savepoint a/set mem = 7/savepoint b/set local note = x/release a", "T  | : mem=7; note=x", "RELEASE"},
		{"begin/savepoint a/set mem = 7/savepoint a/set mem = 8/release a", "T  | : ;  | a: mem=8; ", "RELEASE"},
		{"begin/savepoint a/savepoint b/release b", "T  | : ;  | a: ; ", "RELEASE"},
		{"rollback to a", "I ", "6[]"},
		{"begin/rollback to a", "E  | : ; ", "5[]"},
		{"begin/savepoint a/fail/rollback to b", "E  | : ;  | a: ; ", "5[]"},
		{"begin/set mem = 7/set local note = x/savepoint a/set mem = 8/set note = y/savepoint b/fail/rollback to a", "T  | : mem=7; note=x | a: mem=7; note=x", "ROLLBACK"},
		{"begin/savepoint a/set mem = 7/savepoint a/set mem = 8/rollback to a", "T  | : ;  | a: mem=7;  | a: mem=7; ", "ROLLBACK"},
		{"begin/savepoint a/set mem = 7/rollback to a/set mem = 8", "T  | : ;  | a: mem=8; ", "SET"},
		{"set mem = 7/show mem", "I mem=7", "SHOW 7"},
		{"show mem", "I ", "SHOW 5"},
		{"begin/set mem = 7/set local mem = 8/show mem", "T  | : mem=7; mem=8", "SHOW 8"},
		{"begin/show other", "E  | : ; ", "8[]"},
		{"show other", "I ", "8[]"},
		{"select 1", "I ", "select"},
		{"begin/select 1", "T  | : ; ", "select"},
		{"fail", "I ", "1[]"},
		{"begin/fail", "E  | : ; ", "1[]"},
		{"begin/ ", "T  | : ; ", ""},
		{"begin/fail/ ", "E  | : ; ", ""},
		{"begin/copy x", "T  | : ; ", "2[]"},
		{"begin/a;b", "T  | : ; ", "2[]"},
		{"begin/fail/copy x", "E  | : ; ", "2[]"},
		{"begin/fail/a;b", "E  | : ; ", "2[]"},
		{"copy x", "I ", "2[]"},
	} {
		var l []string
		if c.commands != "" {
			l = strings.Split(c.commands, "/")
		}
		s, r := run(t, New(), l...)
		if show(s) != c.session || told(r) != c.reply {
			t.Errorf("%s: %q %q", c.commands, show(s), told(r))
		}
	}
}

// F2: in E all but Commit, Rollback and RollbackTo err with ErrState.
func TestFailed(t *testing.T) {
	e, _ := run(t, New(), "set note = x", "begin", "set mem = 7", "savepoint a", "fail")
	for _, k := range []string{"set mem = 7", "set other = 1", "set local mem = 7", "reset mem", "reset all", "discard all", "begin", "savepoint b", "release a", "release z", "show mem", "show other", "select", "fail"} {
		if s, r := run(t, e, k); r.Err != api.ErrState || r.Tag != "" || len(r.Row) != 0 || !same(s, e) {
			t.Error(k, show(s), told(r))
		}
	}
	for kind := range 256 {
		known := strings.IndexByte("slraxbckpetwoum0", byte(kind)) >= 0
		for _, from := range []Session{New(), e} {
			s, r := Do(settings(), from, parse.Command{Kind: byte(kind), Name: "mem", Value: "7"})
			if !known && (r.Err != api.ErrForm || !same(s, from)) {
				t.Error(kind, show(s), told(r))
			}
			if known && r.Err == api.ErrForm != (kind == parse.Barred || kind == parse.Many) {
				t.Error(kind, told(r))
			}
		}
	}
}

// F2: at most twenty levels.
func TestLevels(t *testing.T) {
	s, _ := run(t, New(), "begin")
	for i := range MaxLevels - 1 {
		var r Reply
		if s, r = run(t, s, "savepoint a"); r.Tag != "SAVEPOINT" || len(s.Levels) != i+2 {
			t.Fatal(i, show(s), told(r))
		}
	}
	full, r := run(t, s, "savepoint a")
	if r.Err != api.ErrFull || full.Status != 'E' || len(full.Levels) != MaxLevels {
		t.Error(show(full), told(r))
	}
	if s, r := run(t, full, "rollback to a", "release a", "savepoint b"); r.Tag != "SAVEPOINT" || len(s.Levels) != MaxLevels || s.Status != 'T' {
		t.Error(show(s), told(r))
	}
}

// F2: the transaction's level is no savepoint, whatever its name.
func TestNoNameIsNoSavepoint(t *testing.T) {
	s, _ := run(t, New(), "begin")
	for _, k := range []byte{parse.Release, parse.RollbackTo} {
		if got, r := Do(settings(), s, parse.Command{Kind: k}); r.Err != api.ErrNone || got.Status != 'E' || len(got.Levels) != 1 {
			t.Error(k, show(got), told(r))
		}
	}
}

// F1: the top's Local over its Set.
func TestEffective(t *testing.T) {
	s := Session{Status: 'T', Base: pairs("a", "1")}
	if got := Effective(s); !samePairs(got, s.Base) {
		t.Error(got)
	}
	s.Levels = []Level{{Set: pairs("z", "0")}, {Set: pairs("b", "2", "c", "3"), Local: pairs("a", "0", "c", "4")}}
	if got := Effective(s); !samePairs(got, pairs("a", "0", "b", "2", "c", "4")) {
		t.Error(got)
	}
	if got := Effective(New()); len(got) != 0 || !same(New(), Session{Status: 'I'}) {
		t.Error(got)
	}
}

// F3: what is reported, in the catalog's order, if it is unlike.
func TestReports(t *testing.T) {
	a, _ := run(t, New(), "set mem = 7", "set level = high")
	b, _ := run(t, a, "begin", "set local note = x", "set mem = 5", "set level = low")
	if got := Reports(settings(), a, b); !samePairs(got, pairs("mem", "5", "note", "x")) {
		t.Error(got)
	}
	if got := Reports(settings(), b, a); !samePairs(got, pairs("mem", "7", "note", "")) {
		t.Error(got)
	}
	if got := Reports(settings(), a, a); len(got) != 0 {
		t.Error(got)
	}
}

func statements() []string {
	return []string{"begin", "begin", "begin", "commit", "rollback", "savepoint a", "savepoint b", "savepoint a", "release a", "release b", "rollback to a", "rollback to b",
		"set mem = 7", "set mem = 5", "set mem = 8", "set mem = 101", "set local mem = 9", "set local mem = 5", "set note = x", "set local note = y", "set level = high", "reset mem", "reset all", "reset other", "discard all", "show mem", "select", "fail", "", "copy"}
}

// freeze spoils what lies behind each list's length, and tells all that there is.
func freeze(s Session) string {
	spoil := func(l []catalog.Pair) {
		for i := range l[len(l):cap(l)] {
			l[len(l) : len(l)+i+1][i] = catalog.Pair{Name: "behind"}
		}
	}
	spoil(s.Base)
	for _, l := range s.Levels {
		spoil(l.Set)
		spoil(l.Local)
	}
	return show(s)
}

// F4, P3: what is rolled back was not; a savepoint keeps what was; nothing that is handed in is changed, and nothing is shared.
func TestWhatFollows(t *testing.T) {
	r := rand.New(rand.NewSource(1))
	for range 2000 {
		s := New()
		behind := New()
		points := map[int]string{}
		for range 40 {
			k := statements()[r.Intn(len(statements()))]
			m, _ := parse.Parse(k)
			before := freeze(s)
			next, reply := Do(settings(), s, m)
			if freeze(s) != before {
				t.Fatal(k, before, show(s))
			}
			again, _ := Do(settings(), s, m)
			for _, l := range again.Levels {
				for i := range l.Set {
					l.Set[i].Name = "spoilt"
				}
			}
			for i := range again.Base {
				again.Base[i].Name = "spoilt"
			}
			if show(s) != before {
				t.Fatal("shared", k, before, show(s))
			}
			if reply.Err != api.OK && (reply.Tag != "" || len(reply.Row) != 0) {
				t.Fatal(k, reply)
			}
			if k == "begin" && s.Status == 'I' {
				behind = next
			}
			if k == "rollback" && s.Status != 'I' && !samePairs(next.Base, behind.Base) {
				t.Fatal(show(next), show(behind))
			}
			if reply.Tag == "SAVEPOINT" {
				points[len(next.Levels)-1] = show(next)
			}
			if m.Kind == parse.RollbackTo && reply.Err == api.OK && show(next) != points[len(next.Levels)-1] {
				t.Fatal(show(next), points)
			}
			if (next.Status == 'I') != (len(next.Levels) == 0) {
				t.Fatal(show(next))
			}
			s = next
		}
	}
}

// P1: what is no session gets some answer, without a panic.
func TestNoSession(t *testing.T) {
	for _, status := range []byte{0, 'I', 'T', 'E', 'x'} {
		for _, levels := range [][]Level{nil, {{}}, {{Name: "a"}, {Name: "a"}}, make([]Level, 30)} {
			for kind := range 256 {
				s := Session{Status: status, Base: pairs("z", "", "a", "", "mem", "x"), Levels: levels}
				for _, c := range [][]catalog.Setting{nil, settings(), {{}}, append(settings(), settings()...)} {
					next, _ := Do(c, s, parse.Command{Kind: byte(kind), Name: "mem", Value: "7"})
					Do(c, next, parse.Command{Kind: byte(kind), Name: "a", Value: "7"})
					Effective(next)
					Reports(c, s, next)
				}
			}
		}
	}
}
