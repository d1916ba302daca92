package world

import (
	"slices"

	"shallot/api"
	"shallot/client"
	"shallot/coord"
	"shallot/key"
	"shallot/net"
	"shallot/server"
)

// hearer is a node: what hears, and minds the time.
type hearer interface {
	stamp() api.Stamp
}

type coordNode struct{ api.Coord }

type serverNode struct{ api.Server }

type clientNode struct{ api.Client }

func (x coordNode) stamp() api.Stamp { return x.Post.Stamp }

func (x serverNode) stamp() api.Stamp { return x.Post.Stamp }

func (x clientNode) stamp() api.Stamp { return x.Post.Stamp }

// moving is a world in which something is done: its lists of nodes are its own.
type moving struct {
	api.World
	cfg  api.Cfg
	sent []api.Sent // what is to stand behind Log
}

func moved(c api.Cfg, w api.World) *moving {
	w.Servers, w.Clients = slices.Clone(w.Servers), slices.Clone(w.Clients)
	return &moving{World: w, cfg: c}
}

// done puts what was sent behind Log, all at once, as a long list is not copied lightly.
func (m *moving) done() api.World {
	if len(m.sent) > 0 {
		m.Log = slices.Concat(m.Log, m.sent)
	}
	return m.World
}

// node tells the hearer of a number; of a dead server, and of no node, there is none.
func (m *moving) node(n int) (hearer, bool) {
	if n == coordinator {
		return coordNode{m.Coord}, true
	}
	if who, ok := key.Client(m.cfg, n); ok && who < len(m.Clients) {
		return clientNode{m.Clients[who]}, true
	}
	if key.Server(m.cfg, n) && n <= len(m.Servers) && n <= len(m.Dead) && !m.Dead[n-1] {
		return serverNode{m.Servers[n-1]}, true
	}
	return nil, false
}

// put puts a hearer in its place again.
func (m *moving) put(n int, x hearer) {
	switch x := x.(type) {
	case coordNode:
		m.Coord = x.Coord
	case clientNode:
		who, _ := key.Client(m.cfg, n)
		m.Clients[who] = x.Client
	case serverNode:
		m.Servers[n-1] = x.Server
	}
}

// deliver lets a node hear bytes, and sends what it says to that.
func (m *moving) deliver(from, to int, b []byte) {
	x, ok := m.node(to)
	if !ok {
		return
	}
	var parcels []api.Parcel
	e := api.OK
	switch y := x.(type) {
	case coordNode:
		y.Coord, parcels, e = coord.Hear(m.cfg, y.Coord, from, b, m.Now)
		x = y
	case clientNode:
		y.Client, parcels, e = client.Hear(m.cfg, y.Client, from, b, m.Now)
		x = y
	case serverNode:
		var shared api.Shared
		y.Server, shared, parcels, e = server.Hear(m.cfg, y.Server, m.Shared, from, b, m.Now)
		if e == api.OK {
			m.Shared = shared
		}
		x = y
	}
	if e == api.OK {
		m.put(to, x)
		m.send(to, x.stamp(), parcels)
	}
}

// tick lets a node mind the time, and sends what it says to that.
func (m *moving) tick(n int) {
	x, ok := m.node(n)
	if !ok {
		return
	}
	var parcels []api.Parcel
	switch y := x.(type) {
	case coordNode:
		y.Coord, parcels = coord.Tick(m.cfg, y.Coord, m.Now)
		x = y
	case clientNode:
		y.Client, parcels = client.Tick(m.cfg, y.Client, m.Now)
		x = y
	case serverNode:
		y.Server, parcels = server.Tick(m.cfg, y.Server, m.Now)
		x = y
	}
	m.put(n, x)
	m.send(n, x.stamp(), parcels)
}

// send puts a node's parcels under way, and notes them.
func (m *moving) send(from int, s api.Stamp, parcels []api.Parcel) {
	for _, p := range parcels {
		m.Net = net.Send(m.Net, m.Now, from, p.To, p.Bytes)
		at := api.Stamp{Epoch: s.Epoch, Round: s.Round, Chain: slices.Clone(s.Chain)}
		m.sent = append(m.sent, api.Sent{Tick: m.Now, From: from, To: p.To, Len: len(p.Bytes), Stamp: at, First: p.First})
	}
}
