package proxy

import (
	"slices"

	"taxirank/api"
	"taxirank/catalog"
	"taxirank/frames"
	"taxirank/msg"
	"taxirank/pool"
	"taxirank/recon"
	"taxirank/render"
	"taxirank/wire"
)

// conn is a connection that there is.
type conn struct {
	p      *Proxy
	tenant *tenant
	id     int
	in     *wire.Reader
	take   func(m msg.Msg) bool // what it does with a message; false, if that may not come

	vars   []catalog.Pair // that it had when it was given back
	client *client        // whom it is leased to; nil, if to nobody
	left   int            // commands of the preamble that are not answered
	tagged bool           // the next one of these has told its tag
	handed bool           // a statement is handed to it, and not answered
	reply  []byte         // what came since
	erred  bool           // there is an error in it
}

// there tells whether a connection still is.
func (k *conn) there() bool { return k.tenant.conns[k.id] == k }

// follow does what a pool tells.
func (p *Proxy) follow(t *tenant, l []pool.Event) {
	for _, e := range l {
		switch e.Kind {
		case pool.Open:
			p.open(t, e.Server)
		case pool.Lease:
			p.lease(t.conns[e.Server], p.clients[e.Client])
		case pool.Close:
			p.tell(Out{Kind: Close, Tenant: t.number, Id: e.Server})
			delete(t.conns, e.Server)
		case pool.Full:
			p.turnAway(p.clients[e.Client], fullCode)
		case pool.Late:
			p.turnAway(p.clients[e.Client], lateCode)
		case pool.Lost:
			p.lost(p.clients[e.Client])
		}
	}
}

// open has a connection begin.
func (p *Proxy) open(t *tenant, id int) {
	k := &conn{p: p, tenant: t, id: id, in: wire.New(false)}
	k.take = k.starting
	t.conns[id] = k
	p.tell(Out{Kind: Open, Tenant: t.number, Id: id})
	texts := []string{"user", t.User, "database", t.Database}
	k.send(packed(false, msg.Msg{Texts: texts, Nums: []int{msg.Startup, len(texts)}}))
}

// send tells a connection something.
func (k *conn) send(text string) {
	k.p.tell(Out{Kind: Server, Tenant: k.tenant.number, Id: k.id, Text: text})
}

// ask sends a connection a statement.
func (k *conn) ask(statement string) {
	text, _ := render.Query(statement)
	k.send(text)
}

// lease gives a connection to a client, and makes it hold what that holds.
func (p *Proxy) lease(k *conn, c *client) {
	k.client, c.lease = c, k
	preamble := recon.Diff(k.tenant.Catalog, k.vars, c.session.Base)
	for _, m := range preamble {
		statement, _ := render.Statement(m)
		k.ask(statement)
	}
	k.left, k.tagged = len(preamble), false
	if k.left == 0 {
		p.hand(k)
		return
	}
	k.take = k.preparing
}

// hand sends a connection its client's statement.
func (p *Proxy) hand(k *conn) {
	k.handed, k.reply, k.erred = true, nil, false
	k.take = k.replying
	k.ask(k.client.text)
}

// lose has a connection be no more.
func (p *Proxy) lose(k *conn) {
	delete(k.tenant.conns, k.id)
	p.follow(k.tenant, k.tenant.pool.Fail(k.id))
}

// lost tells a client that its connection is no more, now or when it asks for something.
func (p *Proxy) lost(c *client) {
	c.lease = nil
	if c.session.Status != outside {
		c.session.Status = failed
		c.cut = true
	}
	if c.busy {
		p.turnAway(c, lostCode)
	} else {
		c.owed = true
	}
}

// frame does a frame; false, if it may not come.
func (k *conn) frame(f wire.Frame) bool {
	m, e := msg.Decode(true, f)
	if e != api.OK {
		return false
	}
	if k.handed {
		text, _ := wire.Pack(f)
		k.reply = append(k.reply, text...)
	}
	if len(k.reply) > MaxReply {
		return false
	}
	return m.Kind == 'S' || m.Kind == 'N' || k.take(m)
}

// starting takes what comes until a connection is there.
func (k *conn) starting(m msg.Msg) bool {
	switch m.Kind {
	case 'R':
		return m.Nums[0] == 0
	case 'K':
		return true
	case 'Z':
		if m.Nums[0] != outside {
			return false
		}
		k.take = k.quiet
		k.p.follow(k.tenant, k.tenant.pool.Opened(k.id))
		return true
	}
	return false
}

// quiet takes nothing.
func (k *conn) quiet(m msg.Msg) bool { return false }

// preparing takes what comes in the preamble: of each command its tag, and the status.
func (k *conn) preparing(m msg.Msg) bool {
	switch {
	case m.Kind == 'C' && !k.tagged:
		k.tagged = true
		return true
	case m.Kind == 'Z' && k.tagged && m.Nums[0] == outside:
		k.tagged = false
		k.left--
		if k.left == 0 {
			k.p.hand(k)
		}
		return true
	}
	return false
}

// replying takes what comes while a statement is handed to a connection.
func (k *conn) replying(m msg.Msg) bool {
	switch m.Kind {
	case 'T', 'D', 'C', 'I':
		return true
	case 'E':
		k.erred = true
		return true
	case 'Z':
		return k.answered(byte(m.Nums[0]))
	}
	return false
}

// answered tells a client the whole reply, if the status is what its session then has.
func (k *conn) answered(status byte) bool {
	c := k.client
	next, ok := k.outcome()
	if !ok || next.Status != status {
		return false
	}
	c.session = next
	k.p.say(c, string(k.reply))
	c.busy, c.text = false, ""
	k.handed, k.reply, k.take = false, nil, k.quiet
	if status == outside {
		k.giveBack()
	}
	k.p.goOn(c)
	return true
}

// outcome is the session behind the statement; false, if there may be none.
func (k *conn) outcome() (frames.Session, bool) {
	s := k.client.session
	if !k.erred {
		next, r := frames.Do(k.tenant.Catalog, s, k.client.command)
		return next, r.Err == api.OK
	}
	if s.Status == within {
		s.Status = failed
	}
	return s, true
}

// giveBack ends a lease.
func (k *conn) giveBack() {
	base := k.client.session.Base
	k.client.lease, k.client = nil, nil
	k.vars = slices.Clone(base)
	k.p.follow(k.tenant, k.tenant.pool.Done(k.id, base))
}
