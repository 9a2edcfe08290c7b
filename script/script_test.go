package script

import (
	"fmt"
	"math/rand"
	"reflect"
	"slices"
	"strings"
	"testing"

	"taxirank/render"
)

func TestWords(t *testing.T) {
	for line, want := range map[string][]string{
		"": nil, " ": nil, "a": {"a"}, "  a  b ": {"a", "b"}, "a\tb c": {"a\tb", "c"}, "a\xa0\xff b": {"a\xa0\xff", "b"}, "\n": {"\n"},
	} {
		if got := Words(line); !slices.Equal(got, want) {
			t.Errorf("Words(%q) = %q", line, got)
		}
	}
}

// F1: messages, one by one.
func TestShow(t *testing.T) {
	z := "Z\x00\x00\x00\x05I"
	for b, want := range map[string][]string{
		"":                                  nil,
		z:                                   {"Z 73"},
		z + z:                               {"Z 73", "Z 73"},
		"R\x00\x00\x00\x08\xff\xff\xff\xff": {"R -1"},
		"K\x00\x00\x00\x0c\x00\x00\x00\x01\x80\x00\x00\x00":          {"K 1 -2147483648"},
		"S\x00\x00\x00\x0aa b\x00\\\x00":                             {`S a\032b \092`},
		"C\x00\x00\x00\x0a\x01!~\x7f\xff\x00":                        {`C \001!~\127\255`},
		"C\x00\x00\x00\x05\x00":                                      {"C -"},
		"C\x00\x00\x00\x06-\x00":                                     {"C -"},
		"I\x00\x00\x00\x04":                                          {"I"},
		render.Fault("08P01"):                                        {"E ERROR 08P01 2 83 67"},
		"D\x00\x00\x00\x0f\x00\x02\x00\x00\x00\x01x\xff\xff\xff\xff": {"D x 2 1 -1"},
		"x":                             {"?"},
		z + "Z":                         {"Z 73", "?"},
		z + "Q\x00\x00\x00\x05\x00" + z: {"Z 73", "?"},
		"Z\x00\x00\x00\x04" + z:         {"?"},
		"\x00\x00\x00\x00\x04":          {"?"},
		"Z\x00\x00\x00\x00" + z:         {"?"},
		"Z\x00\x01\x00\x00" + z:         {"?"},
	} {
		if got := Show(b); !slices.Equal(got, want) {
			t.Errorf("Show(%q) = %q", b, got)
		}
	}
}

func script(l ...string) string { return strings.Join(l, "\n") + "\n" }

const mem = "setting mem: int 0 9 = '4' report"

// runs holds a script against what it tells, line by line, with ; between texts.
func runs(t *testing.T, l ...string) {
	t.Helper()
	var in, want []string
	for i := 0; i < len(l); i += 2 {
		in, want = append(in, l[i]), append(want, l[i+1])
	}
	out := Told(script(in...))
	if len(out) != len(in) {
		t.Fatal(len(out))
	}
	whole := ""
	for i, texts := range out {
		if got := strings.Join(texts, ";"); got != want[i] {
			t.Errorf("line %d, %q: %q; want %q", i+1, in[i], got, want[i])
		}
		for _, text := range texts {
			whole += text + "\n"
		}
	}
	if got := Run(script(in...)); got != whole {
		t.Errorf("Run tells %q", got)
	}
}

// F2: the document's examples, and every command.
func TestExample(t *testing.T) {
	runs(t, mem, "", "tenant u d - 1 5 0 0 0", "ok", "open", "ok", "connect 1 0", "ok", "ask 1 set mem = 7", "ok", "settle", "2",
		"told 1", "R 0;S mem 4;K 1 7;Z 73;S mem 7;C SET;Z 73", "check", "equal")
}

func TestCommands(t *testing.T) {
	runs(t,
		"# setting x", "",
		"  #", "",
		"", "",
		"   ", "",
		"connect 1 0", "no world",
		"conns", "no world",
		"check", "no world",
		"open", "error 1",
		"tick", "no world",
		"  setting note: text = 'a  b'", "",
		"tenant u d - 1 2 2 0 0", "ok",
		"setting note2: text = '' report", "",
		"tenant v d secret 2 2 0 0 0", "ok",
		"open", "ok",
		"told 1", "",
		"connect 1 0", "ok",
		" connect  2   1 ", "ok",
		"connect 1 0", "error 6",
		"connect 3 2", "error 1",
		"connect 0 0", "error 1",
		"connect 1001 0", "error 1",
		"told 1", "R 0;K 1 7;Z 73",
		"told 1", "",
		"told 2", `R 3;R 0;S note2 -;K 2 14;Z 73`,
		"ask 1 show note", "ok",
		"conns", "1 0",
		"serve 1", "no",
		"serve 0", "yes",
		"serve 0", "yes",
		"serve 0", "no",
		"told 1", `T note 1;D a\032\032b 1 4;C SHOW;Z 73`,
		"ask 1", "ok",
		"ask 1 ", "ok",
		"told 1", "I;Z 73;I;Z 73",
		"ask 2   set note2 =  'x  y'", "ok",
		"settle", "2",
		"told 2", `S note2 x\032\032y;C SET;Z 73`,
		"ask 3 x", "error 5",
		"ask 1 a\x00", "error 1",
		"leave 3", "error 5",
		"ask 1 begin", "ok",
		"settle", "1",
		"refused 1", "no",
		"drop 2", "no",
		"drop 0", "yes",
		"conns", "0 1",
		"ask 1 select", "ok",
		"refused 1", "yes",
		"refused 9", "no",
		"told 1", "C BEGIN;Z 84;E ERROR 08006 2 83 67;Z 69",
		"check", "equal",
		"ask 1 rollback", "ok",
		"pause 0", "",
		"ask 1 select", "ok",
		"settle", "0",
		"tick", "",
		"resume 0", "",
		"settle", "2",
		"told 1", "C ROLLBACK;Z 73;C select;Z 73",
		"pause 7", "",
		"resume 7", "",
		"leave 1", "ok",
		"leave 1", "error 5",
		"connect 1 0", "ok",
		"told 1", "R 0;K 1 7;Z 73",
		"refused 1", "no",
		"check", "equal",
		"open", "ok",
		"told 1", "",
		"conns", "0 0",
		"leave 2", "error 5",
		"tenant w d - 0 5 0 0 0", "ok",
		"open", "error 1",
		"conns", "no world",
	)
}

// F2: words that are not so.
func TestWrong(t *testing.T) {
	l := []string{"x", "Setting", "settings", "tenant", "tenant u d - 1 5 0 0", "tenant u d - 1 5 0 0 0 0", "tenant u d - a 5 0 0 0", "tenant u d - 01 5 0 0 0", "tenant u d - 1 5 0 0 10000",
		"open 1", "connect", "connect 1", "connect 1 0 0", "connect a 0", "connect 01 0", "connect +1 0", "connect -1 0", "connect 10000 0", "connect 1\t0", "leave", "leave x", "leave 1 2",
		"ask", "ask x", "ask x y", "ask 01 y", "serve", "serve -0", "serve 0 0", "drop", "drop 00", "settle 1", "tick 1", "pause", "pause 0 1", "resume", "resume x", "told", "told 1 2", "refused", "refused x", "conns 0", "check 0", "99999999999999999999"}
	var with, without []string
	with = append(with, mem, "", "tenant u d - 1 5 0 0 0", "ok", "open", "ok")
	for _, line := range l {
		with, without = append(with, line, "wrong"), append(without, line, "wrong")
	}
	runs(t, without...)
	runs(t, append(with, "conns", "0")...)
	runs(t, "setting mem: int 0 9 = '10'", "", "tenant u d - 1 5 0 0 0", "wrong", "open", "error 1")
	runs(t, "setting", "", "tenant u d - 1 5 0 0 0", "wrong")
	runs(t, mem, "", mem, "", "tenant u d - 1 5 0 0 0", "wrong")
	runs(t, "tenant u d - 1 1 0 0 0", "ok", "tenant u e - 1 1 0 0 0", "ok", "open", "ok", "tenant u d x 1 1 0 0 0", "ok", "open", "error 1")
	runs(t, "tenant u d - 9999 0 0 0 0", "ok", "tenant u d - 1 1 0 0 0", "ok", "open", "error 1")
}

// F2: what is too long.
func TestTooLong(t *testing.T) {
	for _, c := range []struct {
		s     string
		lines int
	}{
		{"", 0}, {"\n", 1}, {"x", 1}, {"x\n", 1}, {"x\n\n", 2},
		{strings.Repeat("x\n", MaxLines), MaxLines}, {strings.Repeat("x\n", MaxLines-1) + "x", MaxLines},
		{strings.Repeat("x\n", MaxLines) + "x", -1}, {strings.Repeat("\n", MaxLines+1), -1},
		{strings.Repeat("#", MaxBytes), 1}, {strings.Repeat("#", MaxBytes+1), -1}, {"x\n" + strings.Repeat("#", MaxBytes), -1},
	} {
		if got := Told(c.s); len(got) != max(c.lines, 0) {
			t.Errorf("%.20q: %d lines", c.s, len(got))
		}
		if got := Run(c.s); (got == "too long\n") != (c.lines < 0) {
			t.Errorf("%.20q: %.40q", c.s, got)
		}
	}
	if Run("") != "" || Run("x\n# y\nz") != "wrong\nwrong\n" {
		t.Error("what is told stands line by line")
	}
}

// some is a script by chance.
func some(r *rand.Rand) []string {
	l := []string{"setting level: enum low|high = 'low'", "setting mem: int 0 9 = '4' report", "setting note: text = '' report"}
	for i := range 1 + r.Intn(2) {
		l = append(l, fmt.Sprintf("tenant u%d d %s %d %d %d %d %d", i, []string{"-", "p"}[r.Intn(2)], 1+r.Intn(3), 1+r.Intn(4), r.Intn(4), r.Intn(4), r.Intn(8)))
	}
	l = append(l, "open", "connect 1 0", "connect 2 0", "connect 3 1", "connect 4 0")
	asks := []string{"begin", "commit", "rollback", "set mem = 7", "set local note = 'a b'", "set level = high", "reset all", "savepoint a", "rollback to a", "release a", "show mem", "fail", "select", "", "copy", "a;b"}
	for len(l) < 180 {
		c := 1 + r.Intn(4)
		switch r.Intn(14) {
		case 0, 1, 2, 3, 4:
			l = append(l, fmt.Sprintf("ask %d %s", c, asks[r.Intn(len(asks))]))
		case 5, 6, 7:
			l = append(l, fmt.Sprintf("serve %d", r.Intn(3)))
		case 8:
			l = append(l, fmt.Sprintf("drop %d", r.Intn(9)))
		case 9:
			l = append(l, []string{"tick", "settle", "conns", "pause 0", "resume 0"}[r.Intn(5)])
		case 10:
			l = append(l, fmt.Sprintf("leave %d", r.Intn(30)))
		case 11:
			l = append(l, fmt.Sprintf("connect %d %d", c, r.Intn(2)))
		default:
			l = append(l, []string{"check", fmt.Sprintf("told %d", c), fmt.Sprintf("refused %d", c)}[r.Intn(3)])
		}
	}
	return append(l, "resume 0", "settle", "check")
}

// F3: the same of the same; of a beginning the beginning; a check always tells equal.
func TestWhatFollows(t *testing.T) {
	r := rand.New(rand.NewSource(1))
	for range 150 {
		l := some(r)
		whole := Told(script(l...))
		if !reflect.DeepEqual(whole, Told(script(l...))) {
			t.Fatal("another time something else", l)
		}
		n := r.Intn(len(l))
		if part := Told(script(l[:n]...)); n > 0 && !reflect.DeepEqual(part, whole[:n]) {
			t.Fatal("the beginning", l[:n])
		}
		for i, line := range l {
			if line == "check" && !slices.Equal(whole[i], []string{"equal"}) {
				t.Fatal(whole[i], strings.Join(l[:i+1], "\n"))
			}
		}
	}
}
