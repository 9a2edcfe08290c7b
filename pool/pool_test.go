package pool

import (
	"fmt"
	"math/rand"
	"reflect"
	"slices"
	"strings"
	"testing"

	"taxirank/api"
	"taxirank/catalog"
	"taxirank/value"
)

func settings() []catalog.Setting {
	return []catalog.Setting{
		{Name: "level", Type: value.Type{Kind: value.Enum, Names: []string{"low", "high"}}, Default: "low"},
		{Name: "mem", Type: value.Type{Kind: value.Int, Least: "0", Most: "100"}, Default: "5"},
	}
}

func mem(v string) []catalog.Pair { return []catalog.Pair{{Name: "mem", Value: v}} }

func made(t *testing.T, f Config) *Pool {
	t.Helper()
	p, e := New(settings(), f)
	if e != api.OK {
		t.Fatal(f, e)
	}
	return p
}

// show is events in short.
func show(l []Event) string {
	var out []string
	for _, e := range l {
		out = append(out, fmt.Sprintf("%c %d %d", e.Kind, e.Client, e.Server))
	}
	return strings.Join(out, ", ")
}

func conns(p *Pool) string {
	var out []string
	for _, k := range p.Conns() {
		s := fmt.Sprintf("%d%c", k.Id, k.State)
		if k.State == 'l' {
			s += fmt.Sprint(k.Client)
		} else if k.Client != 0 {
			s += "!"
		}
		for _, v := range k.Vars {
			s += " " + v.Name + "=" + v.Value
		}
		out = append(out, s)
	}
	return strings.Join(out, ", ")
}

type step struct {
	told   []Event
	events string
}

func check(t *testing.T, steps ...step) {
	t.Helper()
	for i, s := range steps {
		if got := show(s.told); got != s.events {
			t.Errorf("step %d: %s; want %s", i, got, s.events)
		}
	}
}

func state(t *testing.T, p *Pool, want string, waiting ...int) {
	t.Helper()
	if got := conns(p); got != want || !slices.Equal(p.Waiting(), waiting) {
		t.Errorf("%s, %v; want %s, %v", got, p.Waiting(), want, waiting)
	}
}

// P1: which configs are right.
func TestNew(t *testing.T) {
	right := Config{50, 1000, 1 << 20, 1 << 20, 1 << 20}
	state(t, made(t, right), "")
	state(t, made(t, Config{1, 1, 0, 0, 0}), "")
	for _, f := range []Config{{}, {0, 1, 0, 0, 0}, {51, 1, 0, 0, 0}, {1, 0, 0, 0, 0}, {1, 1001, 0, 0, 0}, {-1, 1, 0, 0, 0}, {1, -1, 0, 0, 0},
		{1, 1, -1, 0, 0}, {1, 1, 0, -1, 0}, {1, 1, 0, 0, -1}, {1, 1, 1<<20 + 1, 0, 0}, {1, 1, 0, 1<<20 + 1, 0}, {1, 1, 0, 0, 1<<20 + 1}} {
		if p, e := New(settings(), f); p != nil || e != api.ErrArg {
			t.Error(f, e)
		}
	}
	wrong := settings()
	wrong[1].Default = "x"
	if p, e := New(wrong, right); p != nil || e != api.ErrArg {
		t.Error(p, e)
	}
}

// P2: asking, being opened, and giving back.
func TestLeases(t *testing.T) {
	p := made(t, Config{Size: 2, Queue: 2})
	check(t, step{p.Ask(7, nil), "o 0 1"}, step{p.Ask(7, nil), ""})
	state(t, p, "1o", 7)
	check(t, step{p.Ask(8, mem("7")), "o 0 2"}, step{p.Ask(9, nil), "f 9 0"})
	state(t, p, "1o, 2o", 7, 8)
	check(t, step{p.Opened(3), ""}, step{p.Opened(2), "l 7 2"}, step{p.Opened(2), ""}, step{p.Ask(7, nil), ""})
	state(t, p, "1o, 2l7", 8)
	check(t, step{p.Done(1, nil), ""}, step{p.Done(9, nil), ""}, step{p.Done(2, mem("9")), "l 8 2"})
	state(t, p, "1o, 2l8")
	check(t, step{p.Opened(1), ""}, step{p.Done(2, mem("9")), ""}, step{p.Done(2, mem("8")), ""})
	state(t, p, "1i, 2i mem=9")
	check(t, step{p.Ask(7, mem("9")), "l 7 2"}, step{p.Ask(8, mem("9")), "l 8 1"}, step{p.Ask(9, nil), ""}, step{p.Ask(10, nil), ""}, step{p.Ask(11, nil), "f 11 0"})
	state(t, p, "1l8, 2l7", 9, 10)
}

// P2: the best one, not the first one; of equal ones the lesser Id.
func TestBestIsLeased(t *testing.T) {
	p := made(t, Config{Size: 3, Queue: 9})
	for i := range 3 {
		p.Ask(i+1, nil)
	}
	for i := range 3 {
		p.Opened(i + 1)
	}
	p.Done(1, mem("7"))
	p.Done(3, mem("8"))
	p.Done(2, mem("8"))
	check(t, step{p.Ask(5, mem("8")), "l 5 2"}, step{p.Ask(6, nil), "l 6 1"})
}

// P2: what fails is no more; where somebody waits, another one is opened.
func TestFail(t *testing.T) {
	p := made(t, Config{Size: 1, Queue: 5})
	p.Ask(7, nil)
	p.Ask(8, nil)
	check(t, step{p.Fail(2), ""}, step{p.Fail(1), "o 0 2"}, step{p.Fail(1), ""}, step{p.Opened(1), ""}, step{p.Opened(2), "l 7 2"})
	check(t, step{p.Fail(2), "g 7 2, o 0 3"}, step{p.Opened(3), "l 8 3"}, step{p.Done(3, nil), ""}, step{p.Fail(3), ""})
	state(t, p, "")
}

func TestLeave(t *testing.T) {
	p := made(t, Config{Size: 1, Queue: 5})
	p.Ask(7, nil)
	p.Ask(8, nil)
	p.Ask(9, nil)
	check(t, step{p.Opened(1), "l 7 1"}, step{p.Leave(6), ""}, step{p.Leave(8), ""}, step{p.Leave(8), ""})
	state(t, p, "1l7", 9)
	check(t, step{p.Leave(7), "x 0 1, o 0 2"}, step{p.Leave(7), ""}, step{p.Leave(9), ""})
	state(t, p, "2o")
	check(t, step{p.Opened(2), ""}, step{p.Ask(8, nil), "l 8 2"}, step{p.Leave(8), "x 0 2"})
	state(t, p, "")
}

// P2: time: who waits too long, what is idle too long, and what is too old.
func TestWait(t *testing.T) {
	p := made(t, Config{Size: 1, Queue: 5, Wait: 2})
	check(t, step{p.Ask(7, nil), "o 0 1"}, step{p.Tick(), ""}, step{p.Ask(8, nil), ""}, step{p.Ask(9, nil), ""}, step{p.Tick(), "w 7 0"}, step{p.Ask(7, nil), ""}, step{p.Tick(), "w 8 0, w 9 0"})
	state(t, p, "1o", 7)
	check(t, step{p.Opened(1), "l 7 1"}, step{p.Tick(), ""})
	q := made(t, Config{Size: 1, Queue: 5})
	q.Ask(7, nil)
	for range 100 {
		check(t, step{q.Tick(), ""})
	}
}

func TestIdle(t *testing.T) {
	p := made(t, Config{Size: 3, Queue: 5, Idle: 2})
	p.Ask(7, nil)
	p.Ask(8, nil)
	p.Ask(9, nil)
	p.Opened(1)
	p.Opened(2)
	p.Opened(3)
	p.Done(2, nil)
	check(t, step{p.Tick(), ""}, step{p.Done(1, nil), ""}, step{p.Tick(), "x 0 2"})
	state(t, p, "1i, 3l9")
	check(t, step{p.Tick(), "x 0 1"}, step{p.Tick(), ""})
	state(t, p, "3l9")
	q := made(t, Config{Size: 1, Queue: 5})
	q.Ask(7, nil)
	q.Opened(1)
	q.Done(1, nil)
	for range 100 {
		check(t, step{q.Tick(), ""})
	}
	state(t, q, "1i")
	one := made(t, Config{Size: 1, Queue: 5, Idle: 1})
	one.Ask(7, nil)
	one.Opened(1)
	one.Done(1, nil)
	check(t, step{one.Tick(), "x 0 1"})
}

func TestLife(t *testing.T) {
	p := made(t, Config{Size: 2, Queue: 5, Life: 2})
	p.Ask(7, nil)
	p.Ask(8, nil)
	check(t, step{p.Tick(), ""}, step{p.Opened(1), "l 7 1"}, step{p.Opened(2), "l 8 2"}, step{p.Done(1, nil), ""}, step{p.Tick(), "x 0 1"}, step{p.Ask(9, nil), "o 0 3"}, step{p.Ask(6, nil), ""})
	check(t, step{p.Done(2, nil), "x 0 2, o 0 4"}, step{p.Tick(), ""}, step{p.Tick(), ""}, step{p.Tick(), ""})
	state(t, p, "3o, 4o", 9, 6)
	check(t, step{p.Opened(3), "l 9 3"}, step{p.Done(3, nil), "x 0 3"})
	state(t, p, "4o", 6)
}

// P2: while it is paused nothing is leased or opened.
func TestPause(t *testing.T) {
	p := made(t, Config{Size: 2, Queue: 5, Wait: 3, Idle: 2})
	p.Ask(7, nil)
	p.Opened(1)
	p.Done(1, mem("7"))
	check(t, step{p.Pause(true), ""}, step{p.Ask(7, nil), ""}, step{p.Ask(8, nil), ""}, step{p.Ask(9, nil), ""})
	state(t, p, "1i mem=7", 7, 8, 9)
	check(t, step{p.Pause(true), ""}, step{p.Pause(false), "l 7 1, o 0 2"}, step{p.Pause(true), ""}, step{p.Opened(2), ""}, step{p.Done(1, nil), ""}, step{p.Tick(), ""})
	check(t, step{p.Tick(), "x 0 1, x 0 2"}, step{p.Tick(), "w 8 0, w 9 0"}, step{p.Pause(false), ""})
	state(t, p, "")
}

// P3: what is handed in is not kept, what is answered is new.
func TestHands(t *testing.T) {
	c := settings()
	p, _ := New(c, Config{Size: 2, Queue: 5})
	c[1].Name, c[0].Type.Names[0] = "other", "other"
	l := mem("7")
	p.Ask(1, nil)
	p.Ask(2, nil)
	p.Opened(1)
	p.Opened(2)
	p.Done(2, l)
	p.Done(1, mem("8"))
	l[0].Value = "8"
	p.Conns()[1].Vars[0].Value = "8"
	p.Pause(true)
	want := mem("7")
	p.Ask(3, want)
	want[0].Value = "8"
	p.Waiting()[0] = 99
	check(t, step{p.Pause(false), "l 3 2"})
	if got := p.Conns(); !reflect.DeepEqual(got[0], Conn{Id: 1, State: 'i', Vars: mem("8")}) || got[1].Id != 2 || got[1].State != 'l' || got[1].Client != 3 || len(got[1].Vars) != 0 {
		t.Error(got)
	}
}

// P3: never too many, nobody has two, nobody waits beside an idle one, and the first one is first.
func TestWhatFollows(t *testing.T) {
	r := rand.New(rand.NewSource(1))
	for range 300 {
		f := Config{1 + r.Intn(3), 1 + r.Intn(4), r.Intn(4), r.Intn(4), r.Intn(6)}
		p, paused := made(t, f), false
		for range 200 {
			before := p.Waiting()
			id, client := 1+r.Intn(12), 1+r.Intn(6)
			if l := p.Conns(); len(l) > 0 {
				id = l[r.Intn(len(l))].Id
			}
			var told []Event
			switch r.Intn(9) {
			case 0, 1, 2:
				told = p.Ask(client, mem(fmt.Sprint(r.Intn(9))))
				if e := len(told) > 0 && told[0].Kind == Full; e != (len(before) == f.Queue && !slices.Contains(before, client) && !strings.Contains(conns(p)+",", fmt.Sprintf("l%d,", client))) {
					t.Fatal(show(told), before)
				}
				before = append(before, client)
			case 3:
				told = p.Opened(id)
			case 4:
				told = p.Done(id, mem(fmt.Sprint(r.Intn(9))))
			case 5:
				told = p.Fail(id)
			case 6:
				told = p.Leave(client)
			case 7:
				told = p.Tick()
			default:
				paused = r.Intn(3) == 0
				told = p.Pause(paused)
			}
			for _, e := range told {
				if e.Kind != Lease {
					before = slices.DeleteFunc(before, func(k int) bool { return e.Kind == Late && k == e.Client })
					continue
				}
				if e.Client != before[0] || paused {
					t.Fatal(show(told), before)
				}
				before = before[1:]
			}
			invariants(t, p, f, paused)
		}
	}
}

func invariants(t *testing.T, p *Pool, f Config, paused bool) {
	t.Helper()
	l := p.Conns()
	clients, idle, last := map[int]bool{}, false, 0
	for _, k := range l {
		if k.Id <= last || k.State == 'l' && clients[k.Client] || strings.IndexByte("oil", k.State) < 0 {
			t.Fatal(conns(p))
		}
		last = k.Id
		clients[k.Client] = true
		idle = idle || k.State == 'i'
	}
	if len(l) > f.Size || len(p.Waiting()) > f.Queue || !paused && idle && len(p.Waiting()) > 0 {
		t.Fatal(conns(p), p.Waiting())
	}
}
