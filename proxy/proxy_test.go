package proxy

import (
	"fmt"
	"math/rand"
	"strings"
	"testing"

	"taxirank/api"
	"taxirank/catalog"
	"taxirank/frames"
	"taxirank/msg"
	"taxirank/pool"
	"taxirank/server"
	"taxirank/value"
	"taxirank/wire"
)

func settings() []catalog.Setting {
	return []catalog.Setting{
		{Name: "level", Type: value.Type{Kind: value.Enum, Names: []string{"low", "high"}}, Default: "low"},
		{Name: "mem", Type: value.Type{Kind: value.Int, Least: "0", Most: "100"}, Default: "5", Report: true},
		{Name: "note", Type: value.Type{Kind: value.Text}, Default: ""},
	}
}

func tenant0(f pool.Config) Tenant {
	return Tenant{User: "u", Database: "d", Catalog: settings(), Pool: f}
}

func wired(back bool, kind byte, texts []string, nums ...int) string {
	f, e := msg.Encode(back, msg.Msg{Kind: kind, Texts: texts, Nums: nums})
	if e != api.OK {
		panic(e)
	}
	s, _ := wire.Pack(f)
	return s
}

func startup(l ...string) string { return wired(false, 0, l, msg.Startup, len(l)) }

func query(s string) string { return wired(false, 'Q', []string{s}) }

func tag(s string) string { return wired(true, 'C', []string{s}) }

func status(b byte) string { return wired(true, 'Z', nil, int(b)) }

func report(name, v string) string { return wired(true, 'S', []string{name, v}) }

func failure(code string) string { return wired(true, 'E', []string{code}, 1, 'C') }

var (
	begin = startup("user", "u", "database", "d")
	sync  = wired(false, 'S', nil)
	end   = wired(false, 'X', nil)
	other = wired(false, 'H', nil)
	zi    = status('I')
	row   = wired(true, 'T', []string{"mem"}, 1) + wired(true, 'D', []string{"7"}, 1, 1)
)

// messages is what stands on the wire, in short.
func messages(s string, back, bare bool) string {
	var out []string
	for s != "" {
		f, rest, e := wire.Take(s, bare)
		if e != api.OK {
			return fmt.Sprintf("? %q", s)
		}
		m, e := msg.Decode(back, f)
		if e != api.OK {
			return fmt.Sprintf("? %q", s)
		}
		k := string(rune(m.Kind))
		switch {
		case m.Kind == 0:
			k = fmt.Sprint(m.Nums[0])
		case back && m.Kind == 'Z':
			k += string(rune(m.Nums[0]))
		case back && (m.Kind == 'R' || m.Kind == 'K'):
			k += strings.Trim(fmt.Sprint(m.Nums), "[]")
		case back && m.Kind == 'E':
			k += m.Texts[len(m.Texts)-1]
			m.Texts = nil
		}
		out = append(out, k+strings.Join(m.Texts, "="))
		s, bare = rest, false
	}
	return strings.Join(out, " ")
}

// show is what is told, in short.
func show(l []Out) string {
	var out []string
	for _, o := range l {
		s := fmt.Sprintf("%c%d", o.Kind, o.Id)
		switch o.Kind {
		case Client:
			s += "{" + messages(o.Text, true, false) + "}"
		case Server:
			s += "{" + messages(o.Text, false, strings.HasPrefix(o.Text, "\x00")) + "}"
		default:
			s += o.Text
		}
		if o.Tenant != 0 {
			s += fmt.Sprint("@", o.Tenant)
		}
		out = append(out, s)
	}
	return strings.Join(out, " ")
}

type bench struct {
	*testing.T
	*Proxy
}

func made(t *testing.T, l ...Tenant) bench {
	t.Helper()
	p, e := New(l)
	if e != api.OK {
		t.Fatal(e)
	}
	return bench{t, p}
}

// small is a proxy of one tenant, whose clients 1 to n are welcome.
func small(t *testing.T, f pool.Config, n int) bench {
	t.Helper()
	b := made(t, tenant0(f))
	for i := range n {
		b.Connect(i + 1)
		b.want(b.FromClient(i+1, begin), fmt.Sprintf("c%d{R0 Smem=5 K%d %d ZI}", i+1, i+1, 7*(i+1)))
	}
	return b
}

func (b bench) want(l []Out, want string) {
	b.Helper()
	if got := show(l); got != want {
		b.Errorf("told %s\nwant %s", got, want)
	}
}

func (b bench) session(client int, want string) {
	b.Helper()
	s, ok := b.Session(client)
	if got := fmt.Sprintf("%c %v %d", s.Status, s.Base, len(s.Levels)); !ok || got != want {
		b.Errorf("%s %v; want %s", got, ok, want)
	}
}

func (b bench) handed(id, client int, text string) {
	b.Helper()
	if c, s := b.Handed(0, id); c != client || s != text {
		b.Errorf("handed %d %q; want %d %q", c, s, client, text)
	}
}

// hello is what a server begins with.
func hello(id int) string {
	return wired(true, 'R', nil, 0) + report("mem", "5") + wired(true, 'K', nil, id, 7*id) + zi
}

// X1: which tenants are taken, and which clients.
func TestNew(t *testing.T) {
	good := tenant0(pool.Config{Size: 1, Queue: 1})
	with := func(f func(*Tenant)) []Tenant {
		k := good
		f(&k)
		return []Tenant{good, k}
	}
	x63 := strings.Repeat("x", 63)
	many := func(n int) []Tenant {
		var l []Tenant
		for i := range n {
			k := good
			k.User = fmt.Sprint(i)
			l = append(l, k)
		}
		return l
	}
	for i, l := range [][]Tenant{{good}, many(10), with(func(k *Tenant) { k.User, k.Database, k.Password = x63, x63, x63 }), with(func(k *Tenant) { k.User = "v" }), with(func(k *Tenant) { k.Database = "e" })} {
		if p, e := New(l); p == nil || e != api.OK {
			t.Error(i, e)
		}
	}
	wrong := settings()
	wrong[0].Default = "x"
	for i, l := range [][]Tenant{nil, many(11), {good, good}, with(func(k *Tenant) { k.Password = "x" }),
		with(func(k *Tenant) { k.User = "" }), with(func(k *Tenant) { k.Database = "" }), with(func(k *Tenant) { k.User = x63 + "x" }), with(func(k *Tenant) { k.Database = x63 + "x" }),
		with(func(k *Tenant) { k.User, k.Password = "v", x63+"x" }), with(func(k *Tenant) { k.User = "\x00" }), with(func(k *Tenant) { k.Database = "\x00" }), with(func(k *Tenant) { k.User, k.Password = "v", "\x00" }),
		with(func(k *Tenant) { k.User, k.Catalog = "v", wrong }), with(func(k *Tenant) { k.User, k.Pool.Size = "v", 0 })} {
		if p, e := New(l); p != nil || e != api.ErrArg {
			t.Error(i, e)
		}
	}
}

func TestConnect(t *testing.T) {
	b := made(t, tenant0(pool.Config{Size: 1, Queue: 1}))
	for _, c := range []struct {
		id int
		e  api.Errno
	}{{0, api.ErrArg}, {-1, api.ErrArg}, {1001, api.ErrArg}, {1, api.OK}, {1000, api.OK}, {1, api.ErrState}} {
		if e := b.Connect(c.id); e != c.e {
			t.Error(c.id, e)
		}
	}
	b.session(1, "I [] 0")
	if s, ok := b.Session(2); ok || s.Status != 0 {
		t.Error(s, ok)
	}
	b.want(b.FromClient(2, begin), "")
	b.want(b.Gone(2), "")
	b.want(b.Gone(1), "")
	if _, ok := b.Session(1); ok || b.Connect(1) != api.OK {
		t.Error("who is gone may come again")
	}
}

// X1: how a client becomes welcome, or does not.
func TestBeginnings(t *testing.T) {
	locked := tenant0(pool.Config{Size: 1, Queue: 1})
	locked.User, locked.Password = "v", "secret"
	lock := startup("user", "v", "database", "d")
	pass := func(s string) string { return wired(false, 'p', []string{s}) }
	for in, want := range map[string]string{
		begin:                "c7{R0 Smem=5 K7 49 ZI}",
		startup("user", "u"): "c7{E28000} k7",
		startup("user", "w", "database", "d") + sync: "c7{E28000} k7",
		startup():                              "c7{E08P01} k7",
		"\x00\x00\x00\x00":                     "c7{E08P01} k7",
		wired(false, 0, nil, msg.Cancel, 1, 2): "k7",
		wired(false, 0, nil, 1, 0):             "c7{E0A000} k7",
		begin + end + sync:                     "c7{R0 Smem=5 K7 49 ZI} k7",
		begin + "Q\x00\x00\x00\x00":            "c7{R0 Smem=5 K7 49 ZI} c7{E08P01} k7",
		lock:                                   "c7{R3}",
		lock + end:                             "c7{R3} k7",
		lock + pass("secret") + sync:           "c7{R3} c7{R0 Smem=5 K7 49 ZI} c7{ZI}",
		lock + pass("Secret") + sync:           "c7{R3} c7{E28P01} k7",
		lock + pass(""):                        "c7{R3} c7{E28P01} k7",
		lock + sync:                            "c7{R3} c7{E08P01} k7",
		lock + query("select") + sync:          "c7{R3} c7{E08P01} k7",
		lock + other:                           "c7{R3} c7{E08P01} k7",
		lock + pass("secret") + pass("secret"): "c7{R3} c7{R0 Smem=5 K7 49 ZI} c7{E0A000 ZI}",
		begin + pass("x") + other + sync:       "c7{R0 Smem=5 K7 49 ZI} c7{E0A000 ZI} c7{E0A000 ZI} c7{ZI}",
	} {
		b := made(t, tenant0(pool.Config{Size: 1, Queue: 1}), locked)
		b.Connect(7)
		b.want(b.FromClient(7, in), want)
		if _, ok := b.Session(7); ok == strings.Contains(want, "k7") {
			t.Errorf("%q: there: %v", in, ok)
		}
	}
}

// X1: what no connection is needed for is answered at once.
func TestAnswered(t *testing.T) {
	b := small(t, pool.Config{Size: 1, Queue: 1}, 1)
	for in, want := range map[string]string{
		"": "c1{I ZI}", " ;": "c1{I ZI}", "copy x": "c1{E2 ZI}", "set local a": "c1{E2 ZI}", "a;b": "c1{E2 ZI}", "'": "c1{E2 ZI}", strings.Repeat("x", 2001): "c1{E2 ZI}",
	} {
		b.want(b.FromClient(1, query(in)), want)
	}
	b.session(1, "I [] 0")
}

// X2, X3: a statement on a new connection, whose reply is told as it came.
func TestStatement(t *testing.T) {
	b := small(t, pool.Config{Size: 2, Queue: 5}, 2)
	b.want(b.FromClient(1, query("Set mem = 7")), "o1 s1{196608user=u=database=d}")
	b.handed(1, 0, "")
	b.want(b.FromClient(1, query("show mem")+sync), "")
	b.want(b.FromServer(0, 1, hello(1)[:20]), "")
	b.want(b.FromServer(0, 1, hello(1)[20:]), "s1{QSet mem = 7}")
	b.handed(1, 1, "Set mem = 7")
	b.want(b.FromServer(0, 1, report("mem", "7")+tag("SET")), "")
	b.session(1, "I [] 0")
	b.want(b.FromServer(0, 1, zi+wired(true, 'N', nil, 0)), "c1{Smem=7 CSET ZI} s1{Qshow mem}")
	b.session(1, "I [{mem 7}] 0")
	b.handed(1, 1, "show mem")
	b.want(b.FromServer(0, 1, row+tag("SHOW")+zi), "c1{N Tmem D7 CSHOW ZI} c1{ZI}")
	b.handed(1, 0, "")
	b.want(b.FromServer(0, 2, zi), "")
	b.want(b.FromServer(1, 1, zi), "")
	b.want(b.FromServer(-1, 1, zi), "")
	if c, s := b.Handed(5, 1); c != 0 || s != "" {
		t.Error(c, s)
	}
}

// X2: the preamble makes a connection hold what its client holds.
func TestPreamble(t *testing.T) {
	b := small(t, pool.Config{Size: 1, Queue: 5}, 3)
	b.FromClient(1, query("set mem = 7"))
	b.FromServer(0, 1, hello(1))
	b.want(b.FromClient(2, query("set note = 'it''s'")), "")
	b.want(b.FromClient(3, query("select")), "")
	b.want(b.FromServer(0, 1, tag("SET")+zi), "c1{CSET ZI} s1{QRESET mem}")
	b.handed(1, 0, "")
	b.want(b.FromServer(0, 1, tag("RESET")+report("mem", "5")), "")
	b.want(b.FromServer(0, 1, zi), "s1{Qset note = 'it''s'}")
	b.handed(1, 2, "set note = 'it''s'")
	b.want(b.FromClient(1, query("begin")), "")
	b.want(b.FromServer(0, 1, tag("SET")+zi), "c2{CSET ZI} s1{QRESET note}")
	b.want(b.FromServer(0, 1, tag("RESET")+zi), "s1{Qselect}")
	b.want(b.FromServer(0, 1, tag("x")+zi), "c3{Cx ZI} s1{QSET mem TO '7'}")
	b.want(b.FromServer(0, 1, tag("SET")+zi), "s1{Qbegin}")
	b.want(b.FromServer(0, 1, tag("BEGIN")+status('T')), "c1{CBEGIN ZT}")
	b.session(1, "T [{mem 7}] 1")
	b.want(b.FromClient(2, query("select")), "")
	b.want(b.FromClient(1, query("set note = x")), "s1{Qset note = x}")
	b.want(b.FromServer(0, 1, tag("SET")+status('T')), "c1{CSET ZT}")
	b.want(b.FromClient(1, query("commit")), "s1{Qcommit}")
	b.want(b.FromServer(0, 1, tag("COMMIT")+zi), "c1{CCOMMIT ZI} s1{QRESET mem} s1{QSET note TO 'it''s'}")
	b.session(1, "I [{mem 7} {note x}] 0")
	b.want(b.FromServer(0, 1, tag("RESET")+zi+tag("SET")+zi), "s1{Qselect}")
}

// X3: an error leaves the session as it is, but T is E.
func TestErrors(t *testing.T) {
	b := small(t, pool.Config{Size: 1, Queue: 5}, 1)
	b.FromClient(1, query("fail"))
	b.FromServer(0, 1, hello(1))
	b.want(b.FromServer(0, 1, failure("1")+zi), "c1{E1 ZI}")
	b.FromClient(1, query("begin"))
	b.FromServer(0, 1, tag("BEGIN")+status('T'))
	b.want(b.FromClient(1, query("a;b")), "c1{E2 ZT}")
	b.FromClient(1, query("savepoint a"))
	b.FromServer(0, 1, tag("SAVEPOINT")+status('T'))
	b.FromClient(1, query("set mem = 7"))
	b.want(b.FromServer(0, 1, tag("SET")+failure("9")+status('E')), "c1{CSET E9 ZE}")
	b.session(1, "E [] 2")
	b.want(b.FromClient(1, query("")+query("rollback to a")), "c1{I ZE} s1{Qrollback to a}")
	b.want(b.FromServer(0, 1, tag("ROLLBACK")+status('T')), "c1{CROLLBACK ZT}")
	b.want(b.FromClient(1, query("commit")), "s1{Qcommit}")
	b.want(b.FromServer(0, 1, tag("COMMIT")+zi), "c1{CCOMMIT ZI}")
}

// stage is a proxy whose connection 1 is in some state, the client's session then being so.
type stage struct {
	name  string
	steps func(b bench)
	after string // what is told behind x1, if it fails
	then  string // the client's session then
}

func stages() []stage {
	open := func(b bench) { b.FromClient(1, query("begin")) }
	hand := func(b bench) { open(b); b.FromServer(0, 1, hello(1)) }
	inside := func(b bench) { hand(b); b.FromServer(0, 1, tag("BEGIN")+status('T')) }
	again := func(b bench) { inside(b); b.FromClient(1, query("select")) }
	idle := func(b bench) {
		inside(b)
		b.FromClient(1, query("commit"))
		b.FromServer(0, 1, tag("COMMIT")+zi)
	}
	prepare := func(b bench) {
		idle(b)
		b.FromClient(2, query("set mem = 7"))
		b.FromServer(0, 1, tag("SET")+zi)
		b.FromClient(1, query("begin"))
	}
	tagged := func(b bench) { prepare(b); b.FromServer(0, 1, tag("RESET")) }
	reopen := " o2 s2{196608user=u=database=d}"
	refused := "c1{E08006 ZI}"
	return []stage{
		{"starting", open, reopen, "I [] 0"},
		{"handed", hand, " " + refused, "I [] 0"},
		{"in a transaction", inside, "", "E [] 1"},
		{"handed in a transaction", again, " c1{E08006 ZE}", "E [] 1"},
		{"idle", idle, "", "I [] 0"},
		{"in the preamble", prepare, " " + refused, "I [] 0"},
		{"tagged in the preamble", tagged, " " + refused, "I [] 0"},
	}
}

func at(t *testing.T, s stage) bench {
	b := small(t, pool.Config{Size: 1, Queue: 5}, 2)
	s.steps(b)
	return b
}

// X3: S and N may come at any time, and what else may come.
func TestMayCome(t *testing.T) {
	notice := wired(true, 'N', []string{"x"}, 1, 'M')
	for _, s := range stages() {
		b := at(t, s)
		b.want(b.FromServer(0, 1, notice+report("a", "b")), "")
	}
	b := at(t, stages()[0])
	b.want(b.FromServer(0, 1, wired(true, 'K', nil, 5, 6)+wired(true, 'R', nil, 0)+wired(true, 'K', nil, 5, 6)+wired(true, 'R', nil, 0)+zi), "s1{Qbegin}")
	b = at(t, stages()[0])
	b.want(b.FromServer(0, 1, zi+notice), "s1{Qbegin}")
	b.want(b.FromServer(0, 1, wired(true, 'I', nil)+row+tag("x")+report("a", "b")+status('T')), "c1{Nx I Tmem D7 Cx Sa=b ZT}")
	b = at(t, stages()[1])
	b.want(b.FromServer(0, 1, status('T')), "c1{ZT}")
}

// X3: what may not come; the connection is closed, and its client refused, once.
func TestMayNotCome(t *testing.T) {
	r0, r3, k, i := wired(true, 'R', nil, 0), wired(true, 'R', nil, 3), wired(true, 'K', nil, 1, 1), wired(true, 'I', nil)
	rubbish := []string{"?\x00\x00\x00\x04", "\x00\x00\x00\x00\x04", "C\x00\x00\x00\x04", "C\x00\x00\x00\x00", "C\x00\x00\x40\x00", query("a"), r3, wired(true, '1', nil), wired(true, 'n', nil)}
	for n, wrong := range [][]string{
		{status('T'), status('E'), tag("x"), failure("1"), i, row},
		{r0, k, zi, status('E'), failure("1") + status('T'), failure("1") + status('E'), tag("x") + zi},
		{r0, k, zi, status('T'), tag("x"), failure("1"), i, row},
		{r0, k, zi, status('E'), failure("1") + status('T'), failure("1") + zi, tag("x") + status('E')},
		{r0, k, zi, status('T'), tag("x"), failure("1"), i, row},
		{r0, k, zi, status('T'), failure("1"), i, row, tag("x") + tag("x"), tag("x") + status('T'), tag("x") + k},
		{r0, k, tag("x"), status('T'), status('E'), failure("1"), i, row},
	} {
		s := stages()[n]
		for _, w := range append(wrong, rubbish...) {
			for _, behind := range []string{"", hello(1)} {
				b := at(t, s)
				b.want(b.FromServer(0, 1, w+behind), "x1"+s.after)
				b.session(1, s.then)
				b.want(b.FromServer(0, 1, hello(1)), "")
				b.want(b.Drop(0, 1), "")
			}
			if t.Failed() {
				t.Fatalf("%s: %q", s.name, w)
			}
		}
	}
}

// X3: nothing may come to a connection that nobody was leased yet.
func TestNeverLeased(t *testing.T) {
	for _, w := range []string{zi, wired(true, 'R', nil, 0), wired(true, 'K', nil, 1, 1), tag("x")} {
		b := at(t, stages()[0])
		b.want(b.Gone(1), "")
		b.want(b.FromServer(0, 1, hello(1)), "")
		b.want(b.FromServer(0, 1, report("a", "b")), "")
		b.want(b.FromServer(0, 1, w), "x1")
	}
}

// X2: a connection that is dropped; nothing is told to it.
func TestDrop(t *testing.T) {
	for _, s := range stages() {
		b := at(t, s)
		b.want(b.Drop(0, 2), "")
		b.want(b.Drop(1, 1), "")
		b.want(b.Drop(0, 1), strings.TrimPrefix(s.after, " "))
		b.session(1, s.then)
		b.want(b.Drop(0, 1), "")
	}
}

// X1, X2: one whose transaction lost its connection is told so, once, and does what remains alone.
func TestCut(t *testing.T) {
	b := at(t, stages()[2])
	b.FromClient(1, query("savepoint a"))
	b.FromServer(0, 1, tag("SAVEPOINT")+status('T'))
	b.want(b.Drop(0, 1), "")
	b.want(b.FromClient(1, query("select")), "c1{E08006 ZE}")
	b.want(b.FromClient(1, query("select")+query("rollback to a")+query("rollback to b")+query("")+query("a;b")+query("begin")+sync+other), "c1{E6 ZE} c1{E6 ZE} c1{E6 ZE} c1{I ZE} c1{E2 ZE} c1{E6 ZE} c1{ZE} c1{E0A000 ZE}")
	b.session(1, "E [] 2")
	b.want(b.FromClient(1, query("commit")+query("select")), "c1{CROLLBACK ZI} o2 s2{196608user=u=database=d}")
	b.want(b.FromServer(0, 2, hello(2)), "s2{Qselect}")
	b.want(b.FromServer(0, 2, tag("x")+zi), "c1{Cx ZI}")
	for _, in := range []string{sync, other, query("rollback"), query("")} {
		b := at(t, stages()[2])
		b.Drop(0, 1)
		b.want(b.FromClient(1, in), "c1{E08006 ZE}")
		b.want(b.FromClient(1, query("rollback")), "c1{CROLLBACK ZI}")
	}
	b = at(t, stages()[2])
	b.Drop(0, 1)
	b.want(b.FromClient(1, end), "k1")
}

// X2: a cut client that was busy is refused, and owed nothing more.
func TestCutWhileBusy(t *testing.T) {
	b := at(t, stages()[3])
	b.FromClient(1, query("show mem")+query("rollback"))
	b.want(b.Drop(0, 1), "c1{E08006 ZE} c1{E6 ZE} c1{CROLLBACK ZI}")
	b.session(1, "I [] 0")
}

// X2: who waits behind too many, or too long, is refused.
func TestRefused(t *testing.T) {
	b := small(t, pool.Config{Size: 1, Queue: 2, Wait: 2}, 4)
	b.FromClient(1, query("begin"))
	b.FromServer(0, 1, hello(1)+tag("BEGIN")+status('T'))
	b.want(b.FromClient(2, query("select")+query("copy")), "")
	b.want(b.Tick(), "")
	b.want(b.FromClient(3, query("select")), "")
	b.want(b.FromClient(4, query("select")+query("show mem")+query("")), "c4{E53300 ZI} c4{E53300 ZI} c4{I ZI}")
	b.want(b.Tick(), "c2{E57014 ZI} c2{E2 ZI}")
	b.want(b.FromClient(4, query("select")), "")
	b.want(b.Tick(), "c3{E57014 ZI}")
	b.want(b.FromClient(1, query("commit")), "s1{Qcommit}")
	b.want(b.FromServer(0, 1, tag("COMMIT")+zi), "c1{CCOMMIT ZI} s1{Qselect}")
}

// X1, X2: who leaves, or is ended, gives up what it has.
func TestLeaving(t *testing.T) {
	reopen := "o2 s2{196608user=u=database=d}"
	b := at(t, stages()[2])
	b.FromClient(2, query("select"))
	b.want(b.FromClient(1, end), "k1 x1 "+reopen)
	b.want(b.FromServer(0, 2, hello(2)), "s2{Qselect}")
	b.want(b.Gone(2), "x2")
	b = at(t, stages()[2])
	b.FromClient(2, query("select"))
	b.want(b.FromClient(1, "Q\x00\x00\x00\x00"), "c1{E08P01} k1 x1 "+reopen)
	b = at(t, stages()[1])
	b.want(b.FromClient(1, end+query("select")), "")
	b.want(b.FromServer(0, 1, tag("BEGIN")+status('T')+hello(1)), "c1{CBEGIN ZT} k1 x1")
	b = at(t, stages()[0])
	b.want(b.Gone(1), "")
	b.want(b.FromServer(0, 1, hello(1)), "")
	b = at(t, stages()[5])
	b.want(b.Gone(1), "x1")
	if b.Connect(1) != api.OK {
		t.Error("not there again")
	}
	b.session(1, "I [] 0")
}

// X2: connections that are closed for their age, or because nobody needs them.
func TestAges(t *testing.T) {
	b := small(t, pool.Config{Size: 1, Queue: 5, Life: 1}, 2)
	b.FromClient(1, query("set mem = 7"))
	b.FromServer(0, 1, hello(1))
	b.FromClient(2, query("select"))
	b.want(b.Tick(), "")
	b.want(b.FromServer(0, 1, tag("SET")+zi), "c1{CSET ZI} x1 o2 s2{196608user=u=database=d}")
	b.want(b.FromServer(0, 2, hello(2)), "s2{Qselect}")
	b = small(t, pool.Config{Size: 1, Queue: 5, Idle: 1}, 1)
	b.FromClient(1, query("select"))
	b.FromServer(0, 1, hello(1)+tag("x")+zi)
	b.want(b.Tick(), "x1")
	b.want(b.FromServer(0, 1, hello(1)), "")
}

func TestPause(t *testing.T) {
	two := tenant0(pool.Config{Size: 1, Queue: 5})
	two.User = "v"
	b := made(t, tenant0(two.Pool), two)
	b.Connect(1)
	b.Connect(2)
	b.FromClient(1, begin)
	b.FromClient(2, startup("user", "v", "database", "d"))
	b.want(b.Pause(1, true), "")
	b.want(b.Pause(2, true), "")
	b.want(b.Pause(-1, true), "")
	b.want(b.FromClient(2, query("select")), "")
	b.want(b.FromClient(1, query("select")), "o1 s1{196608user=u=database=d}")
	b.want(b.Pause(1, false), "o1@1 s1{196608user=v=database=d}@1")
	b.want(b.FromServer(1, 1, "?\x00\x00\x00\x04"), "x1@1 o2@1 s2{196608user=v=database=d}@1")
}

// X3: a reply has at most 20000 bytes.
func TestMaxReply(t *testing.T) {
	long := func(n int) string { return wired(true, 'C', []string{strings.Repeat("x", n-6)}) }
	b := at(t, stages()[3])
	if l := b.FromServer(0, 1, long(10000)+long(9994)+status('T')); len(l) != 1 || l[0].Kind != Client || len(l[0].Text) != MaxReply {
		t.Error(show(l)[:40])
	}
	for _, in := range []string{long(10000) + long(9995) + status('T'), long(10000) + long(10001), long(9000) + report("a", strings.Repeat("x", 9000)) + report("a", strings.Repeat("x", 2000))} {
		b := at(t, stages()[3])
		b.want(b.FromServer(0, 1, in), "x1 c1{E08006 ZE}")
	}
	b = at(t, stages()[4])
	for range 5 {
		b.want(b.FromServer(0, 1, report("a", strings.Repeat("x", 9000))), "")
	}
}

// P3: what is handed in is not kept; what is answered is new.
func TestHands(t *testing.T) {
	l := []Tenant{tenant0(pool.Config{Size: 1, Queue: 1})}
	p, _ := New(l)
	l[0].Catalog[1].Default, l[0].Catalog[0].Type.Names[0], l[0].User = "9", "x", "w"
	b := bench{t, p}
	b.Connect(1)
	b.want(b.FromClient(1, begin), "c1{R0 Smem=5 K1 7 ZI}")
	b.FromClient(1, query("set mem = 7"))
	b.FromServer(0, 1, hello(1)+tag("SET")+zi)
	s, _ := b.Session(1)
	s.Base[0].Value = "8"
	b.session(1, "I [{mem 7}] 0")
}

// X4: whatever comes, in whatever pieces, a connection holds what its client holds, when a statement is handed to it.
func TestWhatFollows(t *testing.T) {
	r := rand.New(rand.NewSource(1))
	words := []string{"begin", "commit", "rollback", "set mem = 7", "set mem = 8", "set local note = x", "set level = high", "reset all", "savepoint a", "rollback to a", "release a", "fail", "select", "set mem = 101", "show mem", "", "discard all", "copy"}
	for range 60 {
		b := small(t, pool.Config{Size: 1 + r.Intn(3), Queue: 1 + r.Intn(4), Wait: r.Intn(5), Idle: r.Intn(6), Life: r.Intn(30)}, 5)
		dbs, waits := map[int]*server.Server{}, map[int]string{}
		follow := func(l []Out) {
			for _, o := range l {
				switch o.Kind {
				case Open:
					dbs[o.Id], _ = server.New(o.Id, settings())
				case Close:
					delete(dbs, o.Id)
					delete(waits, o.Id)
				case Server:
					waits[o.Id] += o.Text
				}
			}
		}
		for range 400 {
			id := 1 + r.Intn(40)
			for k := range 40 {
				if dbs[id] == nil || waits[id] == "" {
					id = k + 1
				}
			}
			switch r.Intn(12) {
			case 0, 1, 2, 3:
				follow(b.FromClient(1+r.Intn(5), query(words[r.Intn(len(words))])))
			case 4:
				follow(b.Tick())
			case 5:
				if r.Intn(4) == 0 {
					follow(b.Drop(0, id))
					delete(dbs, id)
					delete(waits, id)
				}
			default:
				if dbs[id] == nil || waits[id] == "" {
					continue
				}
				if c, _ := b.Handed(0, id); c != 0 {
					mine, _ := b.Session(c)
					if got := dbs[id].Session(); got.Status != mine.Status || fmt.Sprint(frames.Effective(got)) != fmt.Sprint(frames.Effective(mine)) {
						t.Fatal(got, mine)
					}
				}
				in := waits[id]
				waits[id] = ""
				answer := dbs[id].Feed(in)
				cut := r.Intn(len(answer) + 1)
				follow(b.FromServer(0, id, answer[:cut]))
				follow(b.FromServer(0, id, answer[cut:]))
			}
		}
	}
}
