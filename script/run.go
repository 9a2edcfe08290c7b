package script

import (
	"strconv"
	"strings"

	"taxirank/api"
	"taxirank/catalog"
	"taxirank/pool"
	"taxirank/proxy"
	"taxirank/world"
)

// run is a script that is run.
type run struct {
	settings string // lines of the catalog
	tenants  []proxy.Tenant
	world    *world.World // nil, if there is none
	shown    map[int]int  // how much was shown of what each client was told that came
}

// line does a line's command, and tells what that tells.
func (r *run) line(line string) []string {
	l := Words(line)
	if len(l) == 0 || l[0][0] == '#' {
		return nil
	}
	k := command(l[0])
	n, ok := arguments(k, l[1:])
	switch {
	case !ok:
		return []string{"wrong"}
	case k == setting:
		r.settings += rest(line, 1) + "\n"
		return nil
	case k == tenant:
		return r.tenant(l[1:], n)
	case k == open:
		return r.open()
	case r.world == nil:
		return []string{"no world"}
	case k == ask:
		return outcome(r.world.Ask(n[0], rest(line, 2)))
	}
	return r.act(k, n)
}

// act does a command of numbers alone in the world that there is.
func (r *run) act(k int, n []int) []string {
	switch k {
	case connect:
		return r.connect(n[0], n[1])
	case leave:
		return outcome(r.world.Leave(n[0]))
	case serve:
		return answer(r.world.Serve(n[0]), "yes", "no")
	case drop:
		return answer(r.world.Drop(n[0]), "yes", "no")
	case settle:
		return []string{strconv.Itoa(r.world.Settle())}
	case tick:
		r.world.Tick()
	case pause, resume:
		r.world.Pause(n[0], k == pause)
	case told:
		return r.told(n[0])
	case refused:
		return answer(r.world.Refused(n[0]), "yes", "no")
	case conns:
		return r.conns()
	case check:
		return answer(r.equal(), "equal", "not equal")
	}
	return nil
}

func outcome(e api.Errno) []string {
	if e != api.OK {
		return []string{"error " + strconv.Itoa(int(e))}
	}
	return []string{"ok"}
}

func answer(is bool, yes, no string) []string {
	if is {
		return []string{yes}
	}
	return []string{no}
}

// tenant adds a tenant of the catalog that there is.
func (r *run) tenant(l []string, n []int) []string {
	c, e := catalog.Parse(r.settings)
	if e != api.OK {
		return []string{"wrong"}
	}
	password := l[2]
	if password == "-" {
		password = ""
	}
	r.tenants = append(r.tenants, proxy.Tenant{
		User: l[0], Database: l[1], Password: password, Catalog: c,
		Pool: pool.Config{Size: n[0], Queue: n[1], Wait: n[2], Idle: n[3], Life: n[4]},
	})
	return []string{"ok"}
}

// open makes a world of the tenants.
func (r *run) open() []string {
	w, e := world.New(r.tenants)
	r.world, r.shown = w, map[int]int{}
	return outcome(e)
}

func (r *run) connect(client, tenant int) []string {
	e := r.world.Connect(client, tenant)
	if e == api.OK {
		r.shown[client] = 0
	}
	return outcome(e)
}

// told shows what a client was told since that was shown last.
func (r *run) told(client int) []string {
	all := r.world.Told(client)
	from := r.shown[client]
	r.shown[client] = len(all)
	return Show(all[from:])
}

func (r *run) conns() []string {
	var out []string
	for _, n := range r.world.Conns() {
		out = append(out, strconv.Itoa(n))
	}
	return []string{strings.Join(out, " ")}
}

// equal tells whether each database held what its client's session did, and each client was told what one of its own tells.
func (r *run) equal() bool {
	for _, h := range r.world.Hands() {
		if !h.Equal {
			return false
		}
	}
	for client := range r.shown {
		asAlone := strings.HasPrefix(r.world.Own(client), r.world.Told(client))
		if !asAlone && !r.world.Refused(client) {
			return false
		}
	}
	return true
}
