package front

import (
	"math/rand"
	"reflect"
	"testing"

	"taxirank/api"
	"taxirank/msg"
	"taxirank/wire"
)

// client is a client's message on the wire.
func client(kind byte, texts []string, nums ...int) string {
	f, e := msg.Encode(false, msg.Msg{Kind: kind, Texts: texts, Nums: nums})
	if e != api.OK {
		panic(e)
	}
	s, _ := wire.Pack(f)
	return s
}

func startup(l ...string) string { return client(0, l, msg.Startup, len(l)) }

var (
	begin   = startup("user", "u")
	cancel  = client(0, nil, msg.Cancel, 7, -8)
	query   = client('Q', []string{"a"})
	pass    = client('p', []string{"secret"})
	sync    = client('S', nil)
	end     = client('X', nil)
	started = Event{Kind: Start, User: "u", Database: "u"}
)

func wrong(code string) Event { return Event{Kind: Wrong, Text: code} }

// F1, F2: what is asked for by bytes, and what ends it.
func TestFeed(t *testing.T) {
	for _, c := range []struct {
		in   string
		told []Event
		over bool
	}{
		{"", nil, false},
		{begin[:9], nil, false},
		{begin, []Event{started}, false},
		{startup("user", "u", "database", "d"), []Event{{Kind: Start, User: "u", Database: "d"}}, false},
		{startup("database", "d", "x", "user", "user", "u", "user", "v", "database", "e"), []Event{{Kind: Start, User: "u", Database: "d"}}, false},
		{startup("x", "user", "user", "database"), []Event{{Kind: Start, User: "database", Database: "database"}}, false},
		{startup("x", "user", "y", "u"), []Event{wrong("08P01")}, true},
		{startup("User", "u"), []Event{wrong("08P01")}, true},
		{startup("database", "d") + query, []Event{wrong("08P01")}, true},
		{startup() + query, []Event{wrong("08P01")}, true},
		{cancel + query, []Event{{Kind: Cancel, Nums: []int{7, -8}}}, true},
		{client(0, nil, 80877103, 0) + query, []Event{wrong("0A000")}, true},
		{client(0, []string{"user", "u"}, 0, 2), []Event{wrong("0A000")}, true},
		{"\x00\x00\x00\x05a" + begin, []Event{wrong("08P01")}, true},
		{"\x00\x00\x00\x03" + begin, []Event{wrong("08P01")}, true},
		{query, []Event{wrong("08P01")}, true},
		{begin + query + pass + sync, []Event{started, {Kind: Query, Text: "a"}, {Kind: Password, Text: "secret"}, {Kind: Sync}}, false},
		{begin + client('Q', []string{""}), []Event{started, {Kind: Query}}, false},
		{begin + client('P', []string{"", ""}, 0) + client('H', nil) + client('E', []string{""}, 0) + client('D', []string{""}, 0) + client('C', []string{""}, 0) + client('B', []string{"", ""}, 0, 0, 0),
			[]Event{started, {Kind: Other}, {Kind: Other}, {Kind: Other}, {Kind: Other}, {Kind: Other}, {Kind: Other}}, false},
		{begin + end + query, []Event{started, {Kind: End}}, true},
		{begin + "Q\x00\x00\x00\x04" + query, []Event{started, wrong("08P01")}, true},
		{begin + "Z\x00\x00\x00\x05I", []Event{started, wrong("08P01")}, true},
		{begin + "Q\x00\x00\x00\x00", []Event{started, wrong("08P01")}, true},
		{begin + "Q\x00\x00\x40\x00", []Event{started, wrong("08P01")}, true},
		{begin + begin, []Event{started, wrong("08P01")}, true},
	} {
		f := New()
		if got := f.Feed(c.in); !reflect.DeepEqual(got, c.told) || f.Over() != c.over {
			t.Errorf("%q: %v, %v; want %v", c.in, got, f.Over(), c.told)
		}
		if c.over && (len(f.Feed(begin+query)) != 0 || !f.Over()) {
			t.Errorf("%q: something is told behind the end", c.in)
		}
	}
}

// F3: however the bytes are cut, the events are the same.
func TestCuts(t *testing.T) {
	r := rand.New(rand.NewSource(1))
	parts := []string{query, pass, sync, client('H', nil), begin, end, "Q", "x"}
	for range 1000 {
		in := []string{begin, begin, begin, cancel, startup()}[r.Intn(5)]
		for range r.Intn(8) {
			in += parts[r.Intn(5+r.Intn(4))%len(parts)]
		}
		one, two := New(), New()
		want := one.Feed(in)
		var got []Event
		for rest := in; rest != ""; {
			n := 1 + r.Intn(min(len(rest), 7))
			got = append(got, two.Feed(rest[:n])...)
			rest = rest[n:]
		}
		if !reflect.DeepEqual(got, want) || one.Over() != two.Over() {
			t.Fatalf("%q: %v %v", in, want, got)
		}
	}
}
