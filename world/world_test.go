package world

import (
	"math/rand"
	"slices"
	"strings"
	"testing"

	"taxirank/api"
	"taxirank/catalog"
	"taxirank/frames"
	"taxirank/msg"
	"taxirank/pool"
	"taxirank/proxy"
	"taxirank/render"
	"taxirank/server"
	"taxirank/value"
)

func settings() []catalog.Setting {
	return []catalog.Setting{
		{Name: "level", Type: value.Type{Kind: value.Enum, Names: []string{"low", "high"}}, Default: "low", Report: true},
		{Name: "mem", Type: value.Type{Kind: value.Int, Least: "0", Most: "100"}, Default: "5", Report: true},
		{Name: "note", Type: value.Type{Kind: value.Text}, Default: ""},
	}
}

func tenant(user string, f pool.Config) proxy.Tenant {
	return proxy.Tenant{User: user, Database: "d", Catalog: settings(), Pool: f}
}

func made(t *testing.T, l ...proxy.Tenant) *World {
	t.Helper()
	w, e := New(l)
	if e != api.OK {
		t.Fatal(e)
	}
	return w
}

func small(t *testing.T) *World {
	t.Helper()
	return made(t, tenant("u", pool.Config{Size: 1, Queue: 5}))
}

func do(t *testing.T, w *World, client int, l ...string) {
	t.Helper()
	for _, text := range l {
		if e := w.Ask(client, text); e != api.OK {
			t.Fatal(client, text, e)
		}
	}
}

func hello(id int) string { return server.Hello(id, settings(), frames.New()) }

func ready(b byte) string {
	return packed(true, msg.Msg{Kind: 'Z', Nums: []int{int(b)}})
}

func refused(code string, b byte) string { return render.Fault(code) + ready(b) }

// W1: which tenants are taken.
func TestNew(t *testing.T) {
	for _, l := range [][]proxy.Tenant{nil, {{}}, {tenant("", pool.Config{Size: 1, Queue: 1})}} {
		if w, e := New(l); w != nil || e != api.ErrArg {
			t.Error(w, e)
		}
	}
	w := made(t, tenant("u", pool.Config{Size: 1, Queue: 1}), tenant("v", pool.Config{Size: 1, Queue: 1}))
	if !slices.Equal(w.Conns(), []int{0, 0}) || len(w.Hands()) != 0 || w.Serve(0) || w.Drop(0) || w.Settle() != 0 {
		t.Error("somebody is there")
	}
}

// W1, W3: who comes is told Hello, and may come again when it has gone.
func TestConnect(t *testing.T) {
	w := small(t)
	for _, c := range []struct {
		id, tenant int
		e          api.Errno
	}{{1, 1, api.ErrArg}, {1, -1, api.ErrArg}, {0, 0, api.ErrArg}, {1001, 0, api.ErrArg}, {1, 0, api.OK}, {1, 0, api.ErrState}, {1000, 0, api.OK}} {
		if e := w.Connect(c.id, c.tenant); e != c.e {
			t.Error(c, e)
		}
	}
	if w.Told(1) != hello(1) || w.Own(1) != hello(1) || w.Told(1000) != hello(1000) || w.Refused(1) {
		t.Errorf("%q %q", w.Told(1), w.Own(1))
	}
	if w.Told(2) != "" || w.Own(2) != "" || w.Refused(2) {
		t.Error("one that never came was told something")
	}
	do(t, w, 1, "")
	if e := w.Leave(1); e != api.OK || w.Told(1) == hello(1) {
		t.Error(e)
	}
	for _, id := range []int{1, 2, 0} {
		if w.Send(id, "x") != api.ErrNone || w.Ask(id, "x") != api.ErrNone || w.Leave(id) != api.ErrNone {
			t.Error("there is one", id)
		}
	}
	if e := w.Connect(1, 0); e != api.OK || w.Told(1) != hello(1) || w.Own(1) != hello(1) {
		t.Error(e)
	}
}

func TestPassword(t *testing.T) {
	k := tenant("u", pool.Config{Size: 1, Queue: 1})
	k.Password = "secret"
	w := made(t, k)
	w.Connect(1, 0)
	want := packed(true, msg.Msg{Kind: 'R', Nums: []int{3}}) + hello(1)
	if w.Told(1) != want || w.Own(1) != want {
		t.Errorf("%q %q", w.Told(1), w.Own(1))
	}
}

// W1: what is sent goes to both; one that is closed sends nothing more.
func TestSend(t *testing.T) {
	w := small(t)
	w.Connect(1, 0)
	for _, piece := range []string{"S\x00", "\x00\x00\x04"} {
		if e := w.Send(1, piece); e != api.OK {
			t.Error(e)
		}
	}
	want := hello(1) + ready('I')
	if w.Told(1) != want || w.Own(1) != want {
		t.Errorf("%q %q", w.Told(1), w.Own(1))
	}
	if w.Ask(1, "a\x00") != api.ErrArg || w.Ask(1, strings.Repeat("x", 10000)) != api.ErrArg || w.Ask(9, "a\x00") != api.ErrArg {
		t.Error("asked what has no message")
	}
	if e := w.Send(1, "Q\x00\x00\x00\x00"); e != api.OK || w.Told(1) != want+render.Fault("08P01") || w.Own(1) != w.Told(1) {
		t.Errorf("%q %v", w.Told(1), e)
	}
	if w.Send(1, "x") != api.ErrNone || w.Leave(1) != api.ErrNone || w.Connect(1, 0) != api.OK {
		t.Error("it is not closed")
	}
	w.Send(1, "X\x00\x00\x00\x04")
	if w.Told(1) != hello(1) || w.Send(1, "") != api.ErrNone {
		t.Errorf("%q", w.Told(1))
	}
}

// W2, W3: databases answer when they are served; each statement that is handed is noted.
func TestServe(t *testing.T) {
	w := made(t, tenant("u", pool.Config{Size: 2, Queue: 5}), tenant("v", pool.Config{Size: 1, Queue: 5}))
	w.Connect(1, 0)
	w.Connect(2, 1)
	w.Connect(3, 0)
	do(t, w, 1, "set mem = 7")
	do(t, w, 2, "begin", "select")
	do(t, w, 3, "show mem")
	if !slices.Equal(w.Conns(), []int{2, 1}) || w.Serve(3) || w.Serve(-1) {
		t.Error(w.Conns())
	}
	if !w.Serve(1) || len(w.Hands()) != 0 || w.Told(2) != hello(2) {
		t.Error("the second one begins")
	}
	if !w.Serve(1) || w.Told(2) != hello(2)+w.Own(2)[len(hello(2)):len(hello(2))+17] || len(w.Hands()) != 1 {
		t.Errorf("%q", w.Told(2))
	}
	if n := w.Settle(); n != 6 || w.Settle() != 0 || w.Serve(0) {
		t.Error(n)
	}
	want := []Hand{{2, 1, 1, "begin", true}, {1, 0, 1, "set mem = 7", true}, {2, 1, 1, "select", true}, {3, 0, 1, "show mem", true}}
	got := w.Hands()
	slices.SortFunc(got, func(a, b Hand) int { return a.Client - b.Client })
	slices.SortFunc(want, func(a, b Hand) int { return a.Client - b.Client })
	if !slices.Equal(got, want) {
		t.Error(got)
	}
	got[0].Client = 99
	if w.Hands()[0].Client == 99 || w.Hands()[1].Client == 99 {
		t.Error("the answer is not new")
	}
	for id := range 4 {
		if w.Told(id) != w.Own(id) || w.Refused(id) {
			t.Errorf("%d: %q %q", id, w.Told(id), w.Own(id))
		}
	}
}

// W3: a database that holds something else is told to be so.
func TestEqual(t *testing.T) {
	for _, wrong := range []string{"set mem = 9", "begin"} {
		w := small(t)
		w.Connect(1, 0)
		do(t, w, 1, "select")
		w.Serve(0)
		b, _ := render.Query(wrong)
		w.conns[0].server.Feed(b)
		w.Serve(0)
		if l := w.Hands(); len(l) != 1 || l[0].Equal {
			t.Error(wrong, l)
		}
	}
}

// W2, W3: dropped connections, and who is refused for them.
func TestDrop(t *testing.T) {
	w := small(t)
	w.Connect(1, 0)
	do(t, w, 1, "begin")
	w.Settle()
	if w.Drop(1) || w.Drop(-1) || !w.Drop(0) || w.Drop(0) || !slices.Equal(w.Conns(), []int{0}) || w.Refused(1) {
		t.Error(w.Conns(), w.Refused(1))
	}
	before := w.Told(1)
	do(t, w, 1, "select")
	if w.Told(1) != before+refused("08006", 'E') || !w.Refused(1) {
		t.Errorf("%q", w.Told(1))
	}
	do(t, w, 1, "rollback", "select")
	if w.Settle() != 2 || !w.Refused(1) {
		t.Error(w.Told(1))
	}
	w.Leave(1)
	if !w.Refused(1) || w.Connect(1, 0) != api.OK || w.Refused(1) {
		t.Error("what an earlier one was told is forgotten")
	}
}

func TestRefusals(t *testing.T) {
	w := made(t, tenant("u", pool.Config{Size: 1, Queue: 1, Wait: 1}))
	for id := range 4 {
		w.Connect(id+1, 0)
	}
	do(t, w, 1, "begin")
	w.Settle()
	do(t, w, 2, "select")
	do(t, w, 3, "select")
	do(t, w, 4, "copy")
	w.Tick()
	if w.Told(2) != hello(2)+refused("57014", 'I') || w.Told(3) != hello(3)+refused("53300", 'I') {
		t.Errorf("%q %q", w.Told(2), w.Told(3))
	}
	if w.Refused(1) || !w.Refused(2) || !w.Refused(3) || w.Refused(4) || w.Told(4) != w.Own(4) {
		t.Error("refused")
	}
}

func TestPause(t *testing.T) {
	w := small(t)
	w.Connect(1, 0)
	w.Pause(0, true)
	w.Pause(1, true)
	w.Pause(-1, true)
	do(t, w, 1, "select")
	if w.Settle() != 0 || w.Conns()[0] != 0 {
		t.Error(w.Conns())
	}
	w.Pause(0, false)
	if w.Settle() != 2 || w.Told(1) != w.Own(1) {
		t.Error(w.Told(1))
	}
}

// W2: Settle ends, even where there is always something.
func TestSettleEnds(t *testing.T) {
	w := small(t)
	w.Connect(1, 0)
	for range 6000 {
		do(t, w, 1, "select")
	}
	if n := w.Settle(); n != 5000 {
		t.Error(n)
	}
	if n := w.Settle(); n != 1001 || w.Told(1) != w.Own(1) {
		t.Error(n)
	}
}

// P3: what is handed in is not kept.
func TestHands(t *testing.T) {
	l := []proxy.Tenant{tenant("u", pool.Config{Size: 1, Queue: 1})}
	w := made(t, l...)
	l[0].User, l[0].Catalog[1].Default, l[0].Catalog[0].Type.Names[1] = "x", "9", "x"
	if e := w.Connect(1, 0); e != api.OK || w.Told(1) != hello(1) || w.Own(1) != hello(1) {
		t.Error(e)
	}
	do(t, w, 1, "set level = high")
	w.Settle()
	if w.Told(1) != w.Own(1) || strings.Contains(w.Told(1), "ERROR") {
		t.Errorf("%q", w.Told(1))
	}
}

func statements() []string {
	return []string{"begin", "begin", "commit", "rollback", "set mem = 7", "set mem = 8", "set local mem = 9", "set local note = x", "set level = high", "reset all", "reset mem", "savepoint a", "savepoint b",
		"rollback to a", "release b", "fail", "select", "set mem = 101", "show mem", "show note", "", ";", "discard all", "copy x", "a;b", "'", "set other = 1", "reset level", "set mem = 5"}
}

// step does one thing by chance.
func step(r *rand.Rand, w *World, harm bool) {
	id := 1 + r.Intn(5)
	switch k := r.Intn(40); {
	case k < 14:
		w.Ask(id, statements()[r.Intn(len(statements()))])
	case k < 30:
		w.Serve(r.Intn(3))
	case k == 30:
		w.Send(id, []string{"S\x00\x00\x00\x04", "H\x00\x00\x00\x04", "X\x00\x00\x00\x04", "p\x00\x00\x00\x05\x00", "Q\x00", "\x00\x00\x06a\x00"}[r.Intn(6)])
	case k == 31:
		w.Leave(id)
	case k == 32 && harm:
		w.Drop(r.Intn(3))
	case k == 33 && harm:
		w.Tick()
	case k == 34:
		w.Pause(r.Intn(3), r.Intn(3) == 0)
	case k > 34:
		w.Connect(id, r.Intn(2))
	}
}

// W4: each Hand is equal; what is told is the beginning of what a database of its own tells; there are never too many connections.
func TestWhatFollows(t *testing.T) {
	r := rand.New(rand.NewSource(1))
	hands, whole := 0, 0
	for n := range 150 {
		harm := n%2 == 0
		f := pool.Config{Size: 1 + r.Intn(2), Queue: 10}
		if harm {
			f = pool.Config{Size: 1 + r.Intn(2), Queue: 1 + r.Intn(3), Wait: r.Intn(4), Idle: r.Intn(4), Life: r.Intn(9)}
		}
		v := tenant("v", f)
		v.Password = "secret"
		w := made(t, tenant("u", f), v)
		for range 400 {
			step(r, w, harm)
			for _, k := range w.Conns() {
				if k > f.Size {
					t.Fatal(w.Conns())
				}
			}
			for id := range 6 {
				if !w.Refused(id) && !strings.HasPrefix(w.Own(id), w.Told(id)) {
					t.Fatalf("%d: %q\n%q", id, w.Told(id), w.Own(id))
				}
			}
		}
		w.Pause(0, false)
		w.Pause(1, false)
		w.Settle()
		for _, h := range w.Hands() {
			if !h.Equal {
				t.Fatal(h)
			}
		}
		hands += len(w.Hands())
		whole += answered(t, w)
	}
	if hands < 1000 || whole < 50 {
		t.Error("little happened", hands, whole)
	}
}

// answered is how many were told all that a database of their own tells; who ends its transactions is.
func answered(t *testing.T, w *World) int {
	t.Helper()
	for id := 1; id <= 5; id++ {
		w.Ask(id, "rollback")
		w.Settle()
	}
	for id := 1; id <= 5; id++ {
		w.Settle()
		if w.isHere(id) && !w.Refused(id) && w.Told(id) != w.Own(id) {
			t.Fatalf("%d: %q\n%q", id, w.Told(id), w.Own(id))
		}
	}
	n := 0
	for id := 1; id <= 5; id++ {
		if w.isHere(id) && !w.Refused(id) {
			n++
		}
	}
	return n
}
