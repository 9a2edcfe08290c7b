package proxy

import (
	"taxirank/api"
	"taxirank/frames"
	"taxirank/front"
	"taxirank/msg"
	"taxirank/parse"
	"taxirank/render"
	"taxirank/server"
	"taxirank/wire"
)

// Codes of what a client is told.
const (
	wrongEvent    = "08P01"
	nobody        = "28000"
	wrongPassword = "28P01"
	notDone       = "0A000"
	lostCode      = "08006"
	fullCode      = "53300"
	lateCode      = "57014"
)

// Statuses of a session.
const (
	outside = 'I'
	within  = 'T'
	failed  = 'E'
)

// client is one that is there.
type client struct {
	id      int
	front   *front.Front
	tenant  *tenant // nil, until it is known
	welcome bool
	session frames.Session
	events  []front.Event // that wait

	busy    bool
	text    string // the statement that it is busy with, and its command
	command parse.Command
	lease   *conn // nil, if it has none

	cut  bool // its transaction lost its connection
	owed bool // it is to be told that
}

// newcomer is a client that was told nothing yet.
func newcomer(id int) *client {
	return &client{id: id, front: front.New(), session: frames.New()}
}

// goOn puts a client behind the row.
func (p *Proxy) goOn(c *client) { p.row = append(p.row, c) }

// serve has all in the row go on.
func (p *Proxy) serve() {
	for len(p.row) > 0 {
		c := p.row[0]
		p.row = p.row[1:]
		for p.clients[c.id] == c && !c.busy && len(c.events) > 0 {
			e := c.events[0]
			c.events = c.events[1:]
			p.event(c, e)
		}
	}
	p.row = nil
}

// event does what a client asks for.
func (p *Proxy) event(c *client, e front.Event) {
	switch {
	case e.Kind == front.End, e.Kind == front.Cancel:
		p.end(c, "")
	case e.Kind == front.Wrong:
		p.end(c, e.Text)
	case !c.welcome:
		p.enter(c, e)
	case c.owed:
		c.owed = false
		p.refuse(c, lostCode)
	case e.Kind == front.Sync:
		p.say(c, ready(c.session.Status))
	case e.Kind == front.Query:
		p.statement(c, e.Text)
	default:
		p.refuse(c, notDone)
	}
}

// enter does what one asks for that is not welcome yet.
func (p *Proxy) enter(c *client, e front.Event) {
	switch {
	case c.tenant == nil && e.Kind == front.Start:
		c.tenant = p.tenantOf(e.User, e.Database)
		if c.tenant == nil {
			p.end(c, nobody)
		} else if c.tenant.Password != "" {
			p.say(c, packed(true, msg.Msg{Kind: 'R', Nums: []int{3}}))
		} else {
			p.greet(c)
		}
	case c.tenant != nil && e.Kind == front.Password:
		if e.Text != c.tenant.Password {
			p.end(c, wrongPassword)
		} else {
			p.greet(c)
		}
	default:
		p.end(c, wrongEvent)
	}
}

// greet has a client be welcome.
func (p *Proxy) greet(c *client) {
	p.say(c, server.Hello(c.id, c.tenant.Catalog, c.session))
	c.welcome = true
}

// statement does a statement at once, or has the client be busy with it.
func (p *Proxy) statement(c *client, text string) {
	m, e := parse.Parse(text)
	if e != api.OK {
		m = parse.Command{Kind: parse.Barred}
	}
	if m.Kind == parse.Empty || m.Kind == parse.Barred || m.Kind == parse.Many || c.cut {
		p.answer(c, m)
		return
	}
	c.busy, c.text, c.command = true, text, m
	if c.lease != nil {
		p.hand(c.lease)
	} else {
		p.follow(c.tenant, c.tenant.pool.Ask(c.id, c.session.Base))
	}
}

// answer does a command that no connection is needed for. (A savepoint is no more, when the connection is not.)
func (p *Proxy) answer(c *client, m parse.Command) {
	s, r := c.session, frames.Reply{Err: api.ErrState}
	if !c.cut || m.Kind != parse.RollbackTo {
		s, r = frames.Do(c.tenant.Catalog, c.session, m)
	}
	c.session = s
	text, _ := render.Answer(nil, m, r, s.Status)
	p.say(c, text)
	if s.Status == outside {
		c.cut = false
	}
}

// say tells a client something.
func (p *Proxy) say(c *client, text string) { p.tell(Out{Kind: Client, Id: c.id, Text: text}) }

// refuse tells a client what is wrong, and its status.
func (p *Proxy) refuse(c *client, code string) {
	p.say(c, render.Fault(code)+ready(c.session.Status))
}

// turnAway refuses what a client is busy with.
func (p *Proxy) turnAway(c *client, code string) {
	p.refuse(c, code)
	c.busy, c.text = false, ""
	p.goOn(c)
}

// end closes a client, and tells it why, if there is a code.
func (p *Proxy) end(c *client, code string) {
	if code != "" {
		p.say(c, render.Fault(code))
	}
	p.tell(Out{Kind: Kill, Id: c.id})
	p.leave(c)
}

// leave has a client be there no more.
func (p *Proxy) leave(c *client) {
	delete(p.clients, c.id)
	if c.tenant != nil {
		p.follow(c.tenant, c.tenant.pool.Leave(c.id))
	}
}

// ready is the message of a status.
func ready(status byte) string {
	return packed(true, msg.Msg{Kind: 'Z', Nums: []int{int(status)}})
}

// packed is a message as it stands on the wire.
func packed(back bool, m msg.Msg) string {
	f, _ := msg.Encode(back, m)
	s, _ := wire.Pack(f)
	return s
}
