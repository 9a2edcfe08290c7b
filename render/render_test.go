package render

import (
	"strings"
	"testing"

	"taxirank/api"
	"taxirank/catalog"
	"taxirank/frames"
	"taxirank/parse"
)

func cmd(kind byte, l ...string) parse.Command {
	m := parse.Command{Kind: kind}
	if len(l) > 0 {
		m.Name = l[0]
	}
	if len(l) > 1 {
		m.Value = l[1]
	}
	return m
}

// R1, R4: statements, which are the commands when they are parsed.
func TestStatement(t *testing.T) {
	long := strings.Repeat("'", 60)
	name := strings.Repeat("a", 63)
	for m, want := range map[parse.Command]string{
		cmd(parse.Set, "mem", "7"):             "SET mem TO '7'",
		cmd(parse.Set, "app.to", "it's"):       `SET app."to" TO 'it''s'`,
		cmd(parse.Set, "session", "default"):   `SET "session" TO 'default'`,
		cmd(parse.Set, "local", ""):            `SET "local" TO ''`,
		cmd(parse.Set, "mem", "1e"):            "SET mem TO '1e'",
		cmd(parse.Set, "mem", "-1e+5"):         "SET mem TO '-1e+5'",
		cmd(parse.Set, "local.x", `\`):         `SET "local".x TO '\'`,
		cmd(parse.Set, name, long):             "SET " + name + " TO '" + long + long + "'",
		cmd(parse.SetLocal, "mem", "a\nb"):     "SET LOCAL mem TO 'a\nb'",
		cmd(parse.SetLocal, "to", "x"):         `SET LOCAL "to" TO 'x'`,
		cmd(parse.SetLocal, "session", "\xff"): "SET LOCAL \"session\" TO '\xff'",
		cmd(parse.Reset, "mem"):                "RESET mem",
		cmd(parse.Reset, "all"):                `RESET "all"`,
		cmd(parse.Reset, "all.on"):             `RESET "all"."on"`,
		cmd(parse.ResetAll):                    "RESET ALL",
		cmd(parse.Discard):                     "DISCARD ALL",
		cmd(parse.Begin):                       "BEGIN",
		cmd(parse.Commit):                      "COMMIT",
		cmd(parse.Rollback):                    "ROLLBACK",
	} {
		s, e := Statement(m)
		if s != want || e != api.OK {
			t.Errorf("Statement(%q) = %q, %v", m, s, e)
		}
		if p, e := parse.Parse(s); p != m || e != api.OK {
			t.Errorf("Parse(%q) = %q, %v", s, p, e)
		}
	}
	if s, e := Statement(cmd(parse.ResetAll, "A", "\x00")); s != "RESET ALL" || e != api.OK {
		t.Error("a name and a value that are not asked for do not matter", s, e)
	}
	if s, e := Statement(cmd(parse.Reset, "mem", "\x00")); s != "RESET mem" || e != api.OK {
		t.Error(s, e)
	}
}

func TestStatementWrong(t *testing.T) {
	for kind := range 256 {
		if strings.IndexByte("slraxbck", byte(kind)) < 0 {
			if s, e := Statement(cmd(byte(kind), "mem", "7")); s != "" || e != api.ErrArg {
				t.Error(kind, s, e)
			}
		}
	}
	for _, kind := range []byte{parse.Set, parse.SetLocal, parse.Reset} {
		for _, name := range []string{"", "A", "a.b.c", "a b", strings.Repeat("a", 64)} {
			if s, e := Statement(cmd(kind, name, "7")); s != "" || e != api.ErrArg {
				t.Error(kind, name, s, e)
			}
		}
		for _, v := range []string{"\x00", strings.Repeat("x", 61)} {
			if s, e := Statement(cmd(kind, "mem", v)); kind != parse.Reset && (s != "" || e != api.ErrArg) {
				t.Error(kind, s, e)
			}
		}
	}
}

func TestFull(t *testing.T) {
	for name, want := range map[string]string{"mem": "mem", "app.to": `app."to"`, "to.a": `"to".a`, "": `""`, "A.b": `"A".b`, "a..b": `a."".b`, "a.b.c": "a.b.c", `a".b`: `"a""".b`} {
		if s := Full(name); s != want {
			t.Errorf("Full(%q) = %q", name, s)
		}
	}
}

// R2: a statement's message.
func TestQuery(t *testing.T) {
	long := strings.Repeat("x", 9999)
	for _, c := range []struct {
		s, want string
		e       api.Errno
	}{
		{"a", "Q\x00\x00\x00\x06a\x00", api.OK},
		{"", "Q\x00\x00\x00\x05\x00", api.OK},
		{long, "Q\x00\x00\x27\x14" + long + "\x00", api.OK},
		{long + "x", "", api.ErrLong},
		{"a\x00", "", api.ErrArg},
	} {
		if s, e := Query(c.s); s != c.want || e != c.e {
			t.Errorf("Query(%.20q) = %.20q, %v", c.s, s, e)
		}
	}
}

const (
	zI  = "Z\x00\x00\x00\x05I"
	zE  = "Z\x00\x00\x00\x05E"
	set = "C\x00\x00\x00\x08SET\x00"
)

// R3: what a server tells.
func TestAnswer(t *testing.T) {
	pairs := []catalog.Pair{{Name: "a", Value: "1"}, {Name: "b"}}
	reports := "S\x00\x00\x00\x08a\x001\x00S\x00\x00\x00\x07b\x00\x00"
	pad := strings.Repeat("\x00", 18)
	many := make([]string, 101)
	for _, c := range []struct {
		l      []catalog.Pair
		m      parse.Command
		r      frames.Reply
		status byte
		want   string
		e      api.Errno
	}{
		{nil, cmd(parse.Empty), frames.Reply{}, 'I', "I\x00\x00\x00\x04" + zI, api.OK},
		{nil, cmd(parse.Set), frames.Reply{Tag: "SET"}, 'E', set + zE, api.OK},
		{pairs, cmd(parse.Set), frames.Reply{Tag: "SET"}, 'I', reports + set + zI, api.OK},
		{pairs, cmd(parse.Set), frames.Reply{Err: api.ErrValue}, 'E', reports + Fault("9") + zE, api.OK},
		{nil, cmd(parse.Set), frames.Reply{Err: 12, Tag: "SET", Row: []string{"x"}}, 'I', Fault("12") + zI, api.OK},
		{nil, cmd(parse.Show, "mem"), frames.Reply{Tag: "SHOW", Row: []string{"57"}}, 'I',
			"T\x00\x00\x00\x1c\x00\x01mem\x00" + pad + "D\x00\x00\x00\x0c\x00\x01\x00\x00\x00\x0257C\x00\x00\x00\x09SHOW\x00" + zI, api.OK},
		{nil, cmd(parse.Show, "m"), frames.Reply{Row: []string{"", "a"}}, 'I',
			"T\x00\x00\x00\x1a\x00\x01m\x00" + pad + "D\x00\x00\x00\x0f\x00\x02\x00\x00\x00\x00\x00\x00\x00\x01aI\x00\x00\x00\x04" + zI, api.OK},
		{[]catalog.Pair{{Name: "a\x00"}}, cmd(parse.Set), frames.Reply{Tag: "SET"}, 'I', "", api.ErrArg},
		{nil, cmd(parse.Set), frames.Reply{Tag: "S\x00"}, 'I', "", api.ErrArg},
		{nil, cmd(parse.Set), frames.Reply{Tag: strings.Repeat("x", 10000)}, 'I', "", api.ErrLong},
		{nil, cmd(parse.Show, "m\x00"), frames.Reply{Tag: "SHOW", Row: []string{"x"}}, 'I', "", api.ErrArg},
		{nil, cmd(parse.Show, "m"), frames.Reply{Tag: "SHOW", Row: many}, 'I', "", api.ErrArg},
		{nil, cmd(parse.Show, "m"), frames.Reply{Tag: "\x00", Row: []string{strings.Repeat("x", 9995)}}, 'I', "", api.ErrLong},
		{[]catalog.Pair{{Name: strings.Repeat("x", 10000)}, {Name: "\x00"}}, cmd(parse.Set), frames.Reply{}, 'I', "", api.ErrLong},
	} {
		if s, e := Answer(c.l, c.m, c.r, c.status); s != c.want || e != c.e {
			t.Errorf("Answer(%.60q, %q, %.60q) = %q, %v", c.l, c.m, c.r, s, e)
		}
	}
	Answer(nil, cmd(parse.Set), frames.Reply{Err: -5}, 0)
}

func TestFault(t *testing.T) {
	for code, want := range map[string]string{
		"08P01":                    "E\x00\x00\x00\x13SERROR\x00C08P01\x00\x00",
		"":                         "E\x00\x00\x00\x0eSERROR\x00C\x00\x00",
		"a\x00":                    "",
		strings.Repeat("x", 9991):  "",
		strings.Repeat("\x00", 10): "",
	} {
		if s := Fault(code); s != want {
			t.Errorf("Fault(%.20q) = %q", code, s)
		}
	}
	if s := Fault(strings.Repeat("x", 9990)); len(s) != 10005 {
		t.Error(len(s))
	}
}
