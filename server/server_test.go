package server

import (
	"fmt"
	"math/rand"
	"strings"
	"testing"

	"taxirank/api"
	"taxirank/catalog"
	"taxirank/frames"
	"taxirank/msg"
	"taxirank/render"
	"taxirank/value"
	"taxirank/wire"
)

func settings() []catalog.Setting {
	return []catalog.Setting{
		{Name: "level", Type: value.Type{Kind: value.Enum, Names: []string{"low", "high"}}, Default: "low"},
		{Name: "mem", Type: value.Type{Kind: value.Int, Least: "0", Most: "100"}, Default: "5", Report: true},
		{Name: "note", Type: value.Type{Kind: value.Text}, Default: "", Report: true},
	}
}

// client is a client's message on the wire.
func client(kind byte, texts []string, nums ...int) string {
	f, e := msg.Encode(false, msg.Msg{Kind: kind, Texts: texts, Nums: nums})
	if e != api.OK {
		panic(e)
	}
	s, _ := wire.Pack(f)
	return s
}

func query(s string) string { return client('Q', []string{s}) }

var (
	startup = client(0, []string{"user", "u"}, msg.Startup, 2)
	sync    = client('S', nil)
	end     = client('X', nil)
)

// show is what a server told, message by message.
func show(t *testing.T, s string) string {
	t.Helper()
	var out []string
	for s != "" {
		f, rest, e := wire.Take(s, false)
		if e != api.OK {
			t.Fatalf("%q %v", s, e)
		}
		m, e := msg.Decode(true, f)
		if e != api.OK {
			t.Fatalf("%q %v", f, e)
		}
		k := string(rune(m.Kind))
		switch m.Kind {
		case 'Z':
			k += string(rune(m.Nums[0]))
		case 'R', 'K':
			k += strings.Trim(fmt.Sprint(m.Nums), "[]")
		case 'E':
			k += m.Texts[1]
		default:
			k += strings.Join(m.Texts, "=")
		}
		out = append(out, k)
		s = rest
	}
	return strings.Join(out, " ")
}

func begun(t *testing.T) *Server {
	t.Helper()
	s, e := New(3, settings())
	if e != api.OK {
		t.Fatal(e)
	}
	if got := show(t, s.Feed(startup)); got != "R0 Smem=5 Snote= K3 21 ZI" {
		t.Fatal(got)
	}
	return s
}

// S1: which ids and catalogs are taken.
func TestNew(t *testing.T) {
	wrong := settings()
	wrong[1].Default = "05"
	for _, c := range []struct {
		id int
		c  []catalog.Setting
		e  api.Errno
	}{
		{1, nil, api.OK}, {1000000, settings(), api.OK}, {0, nil, api.ErrArg}, {-1, nil, api.ErrArg}, {1000001, nil, api.ErrArg}, {1, wrong, api.ErrArg},
	} {
		s, e := New(c.id, c.c)
		if e != c.e || (s == nil) != (e != api.OK) {
			t.Error(c.id, s, e)
		}
		if s != nil && (s.Closed() || s.Session().Status != 'I' || s.Feed("") != "") {
			t.Error(s)
		}
	}
}

func TestHello(t *testing.T) {
	x := frames.Session{Status: 'T', Levels: []frames.Level{{Set: []catalog.Pair{{Name: "mem", Value: "7"}}, Local: []catalog.Pair{{Name: "note", Value: "x"}}}}}
	if got := show(t, Hello(1000000, settings(), x)); got != "R0 Smem=7 Snote=x K1000000 7000000 ZI" {
		t.Error(got)
	}
	if got := show(t, Hello(1, nil, frames.New())); got != "R0 K1 7 ZI" {
		t.Error(got)
	}
	Hello(1<<62, []catalog.Setting{{Name: "\x00", Report: true}}, frames.Session{})
}

// S2: how a server begins, or does not.
func TestBeginning(t *testing.T) {
	for _, c := range []struct {
		in, out string
		closed  bool
	}{
		{"", "", false},
		{startup[:7], "", false},
		{startup, "R0 Smem=5 Snote= K3 21 ZI", false},
		{client(0, nil, msg.Startup, 0), "R0 Smem=5 Snote= K3 21 ZI", false},
		{client(0, nil, msg.Cancel, 1, 2) + query("a"), "", true},
		{client(0, nil, 80877103, 0) + query("a"), "", true},
		{"\x00\x00\x00\x05a" + startup, "E08P01", true},
		{"\x00\x00\x00\x03", "E08P01", true},
		{"\x00\x01\x00\x00", "E08P01", true},
		{query("a"), "E08P01", true},
	} {
		s, _ := New(3, settings())
		if got := show(t, s.Feed(c.in)); got != c.out || s.Closed() != c.closed {
			t.Errorf("%q: %q %v", c.in, got, s.Closed())
		}
		if c.closed && (s.Feed(startup+query("a")) != "" || !s.Closed()) {
			t.Errorf("%q: it answers when it is closed", c.in)
		}
	}
}

// S2: what is answered to each message.
func TestAnswers(t *testing.T) {
	s := begun(t)
	for _, c := range []struct{ in, out string }{
		{query("set mem = 7"), "Smem=7 CSET ZI"},
		{query("set mem = 07"), "CSET ZI"},
		{query("set level = high"), "CSET ZI"},
		{query("show mem"), "Tmem D7 CSHOW ZI"},
		{query(""), "I ZI"},
		{query("''"), "I ZI"},
		{query("select 1"), "Cselect ZI"},
		{query("begin") + query("set local note = 'a b'") + sync, "CBEGIN ZT Snote=a b CSET ZT ZT"},
		{query("set mem = 'x"), "E2 ZT"},
		{query(strings.Repeat("x", 2001)), "E2 ZT"},
		{query("a;b"), "E2 ZT"},
		{query("copy"), "E2 ZT"},
		{query("set mem = 101"), "E9 ZE"},
		{sync + query("select"), "ZE E6 ZE"},
		{client('P', []string{"", ""}, 0), "E0A000 ZE"},
		{query("commit"), "Snote= CROLLBACK ZI"},
		{query("reset mem"), "Smem=5 CRESET ZI"},
		{query("fail"), "E1 ZI"},
		{client('H', nil) + client('p', []string{"x"}) + client('E', []string{""}, 0), "E0A000 ZI E0A000 ZI E0A000 ZI"},
		{client('B', []string{"", ""}, 0, 0, 0) + client('D', []string{""}, 0) + client('C', []string{""}, 0), "E0A000 ZI E0A000 ZI E0A000 ZI"},
	} {
		if got := show(t, s.Feed(c.in)); got != c.out || s.Closed() {
			t.Errorf("%q: %q; want %q", c.in, got, c.out)
		}
	}
}

// S2, S3: what closes it.
func TestClosing(t *testing.T) {
	for in, out := range map[string]string{
		end + query("a"):                     "",
		query("begin") + end + query("a"):    "CBEGIN ZT",
		"Q\x00\x00\x00\x04" + query("a"):     "E08P01",
		"?\x00\x00\x00\x04" + query("a"):     "E08P01",
		"Z\x00\x00\x00\x05I":                 "E08P01",
		"Q\x00\x00\x00\x03":                  "E08P01",
		"Q\x7f\x00\x00\x00":                  "E08P01",
		query("set mem = 7") + startup[:4]:   "Smem=7 CSET ZI E08P01",
		query("set mem = 7") + "\x00\x00":    "Smem=7 CSET ZI",
		query("set mem = 7") + "X\x00\x00":   "Smem=7 CSET ZI",
		sync + "X\x00\x00\x00\x05a" + "more": "ZI E08P01",
	} {
		s := begun(t)
		if strings.HasSuffix(in, startup[:4]) {
			in += "\x00"
		}
		if got := show(t, s.Feed(in)); got != out {
			t.Errorf("%q: %q; want %q", in, got, out)
		}
		whole := out == "Smem=7 CSET ZI"
		if s.Closed() == whole {
			t.Errorf("%q: closed is %v", in, s.Closed())
		}
		if !whole && s.Feed(query("a")) != "" {
			t.Errorf("%q: it answers when it is closed", in)
		}
	}
}

// S3, P3: the session, of which no change is seen.
func TestSession(t *testing.T) {
	c := settings()
	s, _ := New(3, c)
	c[0].Type.Names[0], c[1].Default = "other", "6"
	s.Feed(startup + query("set level = high") + query("begin") + query("set local mem = 7") + query("savepoint a"))
	for range 2 {
		x := s.Session()
		if x.Status != 'T' || len(x.Levels) != 2 || x.Levels[1].Name != "a" || len(x.Levels[1].Local) != 1 || x.Levels[1].Local[0].Value != "7" || x.Base[0].Value != "high" {
			t.Fatal(x)
		}
		x.Levels[1].Local[0].Value, x.Base[0].Value, x.Levels[0].Name = "spoilt", "spoilt", "spoilt"
	}
	if got := show(t, s.Feed(query("commit")+query("set level = low")+query("show mem"))); got != "Smem=5 CCOMMIT ZI CSET ZI Tmem D5 CSHOW ZI" {
		t.Error(got)
	}
}

// S4: however the bytes are cut, the answers are the same.
func TestCuts(t *testing.T) {
	r := rand.New(rand.NewSource(1))
	parts := []string{query("begin"), query("set mem = 7"), query("fail"), query("commit"), sync, query("show mem"), client('P', []string{"", ""}, 0), query("set local note = x"), query("a;b")}
	for range 300 {
		in := startup
		for range r.Intn(10) {
			in += parts[r.Intn(len(parts))]
		}
		in += []string{"", "Q", end, "?\x00\x00\x00\x04more", query("x")[:3]}[r.Intn(5)]
		one, _ := New(3, settings())
		want := one.Feed(in)
		two, _ := New(3, settings())
		got := ""
		for rest := in; rest != ""; {
			n := 1 + r.Intn(min(len(rest), 9))
			got += two.Feed(rest[:n])
			rest = rest[n:]
		}
		if got != want || one.Closed() != two.Closed() {
			t.Fatalf("%q: %q %q", in, show(t, want), show(t, got))
		}
	}
}

// S2: where an answer has no place on the wire, that is told.
func TestLongestAnswer(t *testing.T) {
	s := begun(t)
	long := "'" + strings.Repeat("x", api.MaxText-2) + "'"
	if got := s.Feed(query(long)); !strings.HasPrefix(got, "C\x00\x00\x07\xd3x") {
		t.Errorf("%.20q", got)
	}
	if got := s.Feed(query("set note = '" + strings.Repeat("y", 60) + "'")); !strings.Contains(got, strings.Repeat("y", 60)) || strings.Contains(got, render.Fault("54000")) {
		t.Error(got)
	}
}
