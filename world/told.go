package world

import (
	"iter"
	"slices"

	"taxirank/api"
	"taxirank/msg"
	"taxirank/proxy"
	"taxirank/server"
	"taxirank/wire"
)

// Codes with which a client is refused something.
const (
	fullCode = "53300"
	lateCode = "57014"
	lostCode = "08006"
)

// errCode is the field of an error's message that tells its code.
const errCode = 'C'

// follow does what the proxy tells.
func (w *World) follow(l []proxy.Out) {
	for _, o := range l {
		switch o.Kind {
		case proxy.Client:
			w.clients[o.Id].told.WriteString(o.Text)
		case proxy.Kill:
			w.clients[o.Id].here = false
		case proxy.Open:
			d := &database{tenant: o.Tenant, id: o.Id}
			d.server, _ = server.New(o.Id, w.tenants[o.Tenant].Catalog)
			w.conns = append(w.conns, d)
		case proxy.Server:
			w.conns[w.place(o)].waits.WriteString(o.Text)
		case proxy.Close:
			at := w.place(o)
			w.conns = slices.Delete(w.conns, at, at+1)
		}
	}
}

// place is where the connection stands that something is told of.
func (w *World) place(o proxy.Out) int {
	return slices.IndexFunc(w.conns, func(d *database) bool { return d.tenant == o.Tenant && d.id == o.Id })
}

// Told is what a client was told.
func (w *World) Told(client int) string {
	if c := w.clients[client]; c != nil {
		return c.told.String()
	}
	return ""
}

// Own is what its own database told.
func (w *World) Own(client int) string {
	if c := w.clients[client]; c != nil {
		return c.ownTold.String()
	}
	return ""
}

// Refused tells whether a client was refused something.
func (w *World) Refused(client int) bool {
	for m := range messages(w.Told(client)) {
		if m.Kind == 'E' && refusal(m) {
			return true
		}
	}
	return false
}

// messages hands on a server's messages that stand on the wire.
func messages(s string) iter.Seq[msg.Msg] {
	return func(yield func(msg.Msg) bool) {
		for rest := s; rest != ""; {
			f, behind, e := wire.Take(rest, false)
			m, wrong := msg.Decode(true, f)
			if e != api.OK || wrong != api.OK || !yield(m) {
				return
			}
			rest = behind
		}
	}
}

// refusal tells whether an error's message has the code of one.
func refusal(m msg.Msg) bool {
	for i, text := range m.Texts {
		if m.Nums[i+1] == errCode && (text == fullCode || text == lateCode || text == lostCode) {
			return true
		}
	}
	return false
}

// Hands is the statements that were handed.
func (w *World) Hands() []Hand { return slices.Clone(w.hands) }

// Conns is how many connections each tenant has.
func (w *World) Conns() []int {
	n := make([]int, len(w.tenants))
	for _, d := range w.conns {
		n[d.tenant]++
	}
	return n
}

// packed is a message as it stands on the wire.
func packed(back bool, m msg.Msg) string {
	f, _ := msg.Encode(back, m)
	s, _ := wire.Pack(f)
	return s
}
