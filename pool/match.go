package pool

import (
	"slices"

	"taxirank/catalog"
	"taxirank/pick"
)

// place is where a connection stands; less than 0, if it is not there.
func (p *Pool) place(id int) int {
	return slices.IndexFunc(p.conns, func(k timed) bool { return k.Id == id })
}

// leaseOf is where the connection stands that is leased to a client; less than 0, if there is none.
func (p *Pool) leaseOf(client int) int {
	return slices.IndexFunc(p.conns, func(k timed) bool { return k.State == leased && k.Client == client })
}

// rest has a connection be idle since now, with those vars.
func (p *Pool) rest(at int, l []catalog.Pair) {
	k := &p.conns[at]
	k.State, k.Client, k.Vars, k.since = idle, 0, l, p.now
}

// shut takes a connection off, and tells that.
func (p *Pool) shut(at int) Event {
	id := p.conns[at].Id
	p.conns = slices.Delete(p.conns, at, at+1)
	return Event{Kind: Close, Server: id}
}

// old tells whether a connection was opened too long ago.
func (p *Pool) old(k timed) bool { return p.f.Life != 0 && p.now-k.opened >= p.f.Life }

// stale tells whether a connection is idle, and that for too long, or old.
func (p *Pool) stale(k timed) bool {
	long := p.f.Idle != 0 && p.now-k.since >= p.f.Idle
	return k.State == idle && (long || p.old(k))
}

// match gives leases and opens connections, and tells that behind what is told.
func (p *Pool) match(told ...Event) []Event {
	for !p.paused {
		e, ok := p.lease()
		if !ok {
			break
		}
		told = append(told, e)
	}
	for !p.paused && p.short() {
		p.last++
		p.conns = append(p.conns, timed{Conn: Conn{Id: p.last, State: opening}, opened: p.now})
		told = append(told, Event{Kind: Open, Server: p.last})
	}
	return told
}

// lease gives whoever waits first the idle connection that is closest, if both are there.
func (p *Pool) lease() (Event, bool) {
	client, waits := p.waits.First()
	if !waits {
		return Event{}, false
	}
	id, ok := pick.Best(p.c, p.idle(), p.wants[client])
	if !ok {
		return Event{}, false
	}
	p.waits.Leave(client)
	delete(p.wants, client)
	k := &p.conns[p.place(id)]
	k.State, k.Client, k.Vars = leased, client, nil
	return Event{Kind: Lease, Client: client, Server: id}, true
}

func (p *Pool) idle() []pick.Idle {
	var out []pick.Idle
	for _, k := range p.conns {
		if k.State == idle {
			out = append(out, pick.Idle{Id: k.Id, Vars: k.Vars})
		}
	}
	return out
}

// short tells whether one more connection is to be opened.
func (p *Pool) short() bool {
	n := 0
	for _, k := range p.conns {
		if k.State == opening {
			n++
		}
	}
	return n < len(p.waits.List()) && len(p.conns) < p.f.Size
}
