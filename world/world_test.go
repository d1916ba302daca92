package world_test

import (
	"bytes"
	"math/rand"
	"reflect"
	"slices"
	"testing"

	"shallot/api"
	"shallot/client"
	"shallot/coord"
	"shallot/frame"
	"shallot/key"
	"shallot/letter"
	"shallot/net"
	"shallot/note"
	"shallot/server"
	"shallot/stamp"
	"shallot/store"
	"shallot/world"
)

const (
	maxInt = 1<<63 - 1
	minInt = -1 << 63
	most   = api.MaxNumber
)

// The servers are the nodes 1 to 3, the clients 4 to 6.
func cfg() api.Cfg {
	return api.Cfg{Seed: []byte("world"), Chain: 2, Standby: 1, Clients: 3, Queue: 4, Close: 6, Long: 24, Again: 3, Window: 4, Round: 1, Seq: 1}
}

func made(t *testing.T, c api.Cfg, fates, draws []int) api.World {
	t.Helper()
	w, e := world.New(c, fates, draws)
	if e != api.OK {
		t.Fatalf("got %d", e)
	}
	return w
}

func tick() api.Act { return api.Act{Kind: api.TickA} }

func say(who, to int, text string) api.Act {
	return api.Act{Kind: api.SendA, Who: who, To: to, Text: []byte(text)}
}

// nilled makes all empty lists nil, through all of a value, and shares nothing with it: so that reflect holds what is the same for the same.
func nilled(v reflect.Value) reflect.Value {
	out := reflect.New(v.Type()).Elem()
	switch v.Kind() {
	case reflect.Slice:
		if v.Len() > 0 {
			out.Set(reflect.MakeSlice(v.Type(), v.Len(), v.Len()))
			for i := range v.Len() {
				out.Index(i).Set(nilled(v.Index(i)))
			}
		}
	case reflect.Struct:
		for i := range v.NumField() {
			out.Field(i).Set(nilled(v.Field(i)))
		}
	default:
		out.Set(v)
	}
	return out
}

func plain[T any](x T) T { return nilled(reflect.ValueOf(x)).Interface().(T) }

func same[T any](a, b T) bool { return reflect.DeepEqual(plain(a), plain(b)) }

// step does an act, which must change nothing of what is handed in.
func step(t *testing.T, c api.Cfg, w api.World, a api.Act) (api.World, api.Answer) {
	t.Helper()
	old, oldA := plain(w), plain(a)
	got, answer := world.Step(c, w, a)
	if !same(w, old) || !same(a, oldA) {
		t.Fatalf("%v: what was handed in is changed", a)
	}
	return got, answer
}

// run does acts, all of which must come to something that is not RejectedR.
func run(t *testing.T, c api.Cfg, w api.World, many int) api.World {
	t.Helper()
	for range many {
		var answer api.Answer
		w, answer = world.Step(c, w, tick())
		if answer.Kind != api.DoneR {
			t.Fatalf("got %v", answer)
		}
	}
	return w
}

func TestNew(t *testing.T) {
	for _, change := range []func(*api.Cfg){
		func(c *api.Cfg) { *c = api.Cfg{} }, func(c *api.Cfg) { c.Chain = 9 }, func(c *api.Cfg) { c.Clients = maxInt }, func(c *api.Cfg) { c.Long = 6 },
		func(c *api.Cfg) { c.Seq = 0 }, func(c *api.Cfg) { c.Round = 0 }, func(c *api.Cfg) { c.Standby = minInt },
	} {
		c := cfg()
		change(&c)
		if w, e := world.New(c, []int{1}, []int{2}); e != api.ErrArg || !reflect.DeepEqual(w, api.World{}) {
			t.Errorf("got %v, %d", w, e)
		}
	}
	for _, x := range [][3]int{{2, 1, 3}, {1, 0, 1}, {8, 8, 8}, {3, 0, 2}} {
		for _, seq := range []uint64{1, 5, most} {
			for _, round := range []uint64{1, most} {
				c := cfg()
				c.Chain, c.Standby, c.Clients, c.Seq, c.Round = x[0], x[1], x[2], seq, round
				fates, draws := []int{3, -1}, []int{4, 5, 6}
				w := made(t, c, fates, draws)
				fates[0], draws[0] = 77, 77
				boxes, _ := store.New(x[2], seq)
				want := api.World{
					Net: api.Net{Fates: []int{3, -1}}, Coord: coord.New(c), Dead: make([]bool, x[0]+x[1]),
					Shared: api.Shared{Draws: []int{4, 5, 6}, Store: boxes}, Halted: seq == most,
				}
				for n := 1; n <= x[0]+x[1]; n++ {
					y, _ := server.New(c, n)
					want.Servers = append(want.Servers, y)
				}
				for who := range x[2] {
					y, _ := client.New(c, who)
					want.Clients = append(want.Clients, y)
				}
				if !same(w, want) {
					t.Errorf("%v, %d: got %v", x, seq, w)
				}
			}
		}
	}
}

// model does what the words of the chapter say, one by one.
type model struct {
	c api.Cfg
	w api.World
}

func (m *model) send(from int, p api.Post, l []api.Parcel) {
	for _, x := range l {
		m.w.Net = net.Send(m.w.Net, m.w.Now, from, x.To, x.Bytes)
		m.w.Log = append(m.w.Log, api.Sent{Tick: m.w.Now, From: from, To: x.To, Len: len(x.Bytes), Stamp: p.Stamp, First: x.First})
	}
}

func (m *model) deliver(from, to int, b []byte) {
	servers := m.c.Chain + m.c.Standby
	switch {
	case to == 0:
		if k, l, e := coord.Hear(m.c, m.w.Coord, from, b, m.w.Now); e == api.OK {
			m.w.Coord = k
			m.send(to, k.Post, l)
		}
	case to <= servers && !m.w.Dead[to-1]:
		if x, s, l, e := server.Hear(m.c, m.w.Servers[to-1], m.w.Shared, from, b, m.w.Now); e == api.OK {
			m.w.Servers[to-1], m.w.Shared = x, s
			m.send(to, x.Post, l)
		}
	case to > servers:
		if x, l, e := client.Hear(m.c, m.w.Clients[to-servers-1], from, b, m.w.Now); e == api.OK {
			m.w.Clients[to-servers-1] = x
			m.send(to, x.Post, l)
		}
	}
}

func (m *model) tick() {
	m.w.Now++
	due, rest := net.Due(m.w.Net, m.w.Now)
	m.w.Net = rest
	for _, f := range due {
		m.deliver(f.From, f.To, f.Bytes)
	}
	var l []api.Parcel
	m.w.Coord, l = coord.Tick(m.c, m.w.Coord, m.w.Now)
	m.send(0, m.w.Coord.Post, l)
	for i := range m.w.Servers {
		if !m.w.Dead[i] {
			m.w.Servers[i], l = server.Tick(m.c, m.w.Servers[i], m.w.Now)
			m.send(i+1, m.w.Servers[i].Post, l)
		}
	}
	for i := range m.w.Clients {
		m.w.Clients[i], l = client.Tick(m.c, m.w.Clients[i], m.w.Now)
		m.send(len(m.w.Servers)+i+1, m.w.Clients[i].Post, l)
	}
}

func (m *model) step(a api.Act) api.Answer {
	isClient := a.Who >= 0 && a.Who < m.c.Clients
	isNode := func(n int) bool { return n >= 0 && n <= m.c.Chain+m.c.Standby+m.c.Clients }
	rejected := api.Answer{Kind: api.RejectedR}
	switch {
	case m.w.Halted:
		return api.Answer{Kind: api.HaltedR}
	case a.Kind == api.TickA:
		m.tick()
		return api.Answer{}
	case a.Kind == api.CrashA:
		if a.Who < 1 || a.Who > m.c.Chain+m.c.Standby || m.w.Dead[a.Who-1] {
			return rejected
		}
		m.w.Dead[a.Who-1], m.w.Servers[a.Who-1] = true, api.Server{}
		return api.Answer{}
	case a.Kind == api.InjectA:
		if !isNode(a.Who) || !isNode(a.To) || a.Who == a.To {
			return rejected
		}
		m.deliver(a.Who, a.To, a.Bytes)
		return api.Answer{}
	case !isClient:
		return rejected
	case a.Kind == api.SendA:
		x, answer := client.Say(m.c, m.w.Clients[a.Who], a.To, a.Text)
		m.w.Clients[a.Who] = x
		return api.Answer{Kind: answer}
	case a.Kind == api.ReceiveA:
		s, l, e := store.Pop(m.w.Shared.Store, a.Who)
		if e != api.OK {
			return api.Answer{Kind: api.EmptyR}
		}
		m.w.Shared.Store = s
		return api.Answer{Kind: api.LetterR, Letter: l}
	case a.Kind == api.StatusA:
		x := m.w.Clients[a.Who]
		return api.Answer{Kind: api.StatusR, Epoch: x.Post.Stamp.Epoch, Round: x.Post.Stamp.Round, Waiting: len(x.Queue.Items), NoChain: m.w.Coord.NoChain}
	}
	return rejected
}

func (m *model) halted() bool {
	out := m.w.Coord.Halted
	for _, x := range m.w.Clients {
		out = out || x.Queue.Next == most
	}
	return out
}

func drawnNumber(r *rand.Rand, near int) int {
	if r.Intn(8) == 0 {
		return []int{minInt, -1, near, near + 1, maxInt, 256}[r.Intn(6)]
	}
	return r.Intn(near)
}

func drawnAct(r *rand.Rand, c api.Cfg, w api.World) api.Act {
	clients, nodes := c.Clients, key.Nodes(c)
	// Fields that are not the act's own are noise.
	a := api.Act{Who: r.Intn(9) - 1, To: r.Intn(9) - 1, Text: []byte("noise"), Bytes: []byte("noise")}
	switch x := r.Intn(20); {
	case x < 9:
		a.Kind = api.TickA
	case x < 12:
		a.Kind, a.Who, a.To, a.Text = api.SendA, drawnNumber(r, clients), drawnNumber(r, clients), make([]byte, r.Intn(70))
	case x < 15:
		a.Kind, a.Who = api.ReceiveA, drawnNumber(r, clients)
	case x < 17:
		a.Kind, a.Who = api.StatusA, drawnNumber(r, clients)
	case x == 17 && r.Intn(12) == 0:
		a.Kind, a.Who = api.CrashA, drawnNumber(r, nodes)
	case x == 18:
		a.Kind = []int{0, -1, 7, maxInt, minInt}[r.Intn(5)]
	default:
		a.Kind, a.Who, a.To = api.InjectA, drawnNumber(r, nodes), drawnNumber(r, nodes)
		if len(w.Net.List) > 0 && r.Intn(2) == 0 { // what is under way comes now, too
			f := w.Net.List[r.Intn(len(w.Net.List))]
			a.Who, a.To, a.Bytes = f.From, f.To, f.Bytes
		}
	}
	return a
}

func drawnCfg(r *rand.Rand) api.Cfg {
	c := api.Cfg{Seed: []byte{byte(r.Intn(256))}, Chain: 1 + r.Intn(3), Standby: r.Intn(3), Clients: 1 + r.Intn(3), Queue: 1 + r.Intn(3)}
	c.Close, c.Again, c.Window, c.Round, c.Seq = 1+r.Intn(6), 1+r.Intn(5), 1+r.Intn(4), 1+uint64(r.Intn(3)), 1+uint64(r.Intn(3))
	c.Long = c.Close + 1 + r.Intn(20)
	if r.Intn(5) == 0 {
		c.Seq = most - uint64(r.Intn(5))
	}
	if r.Intn(5) == 0 {
		c.Round = most - uint64(r.Intn(4))
	}
	return c
}

func drawnNumbers(r *rand.Rand, many int) []int {
	var out []int
	for range r.Intn(many) {
		out = append(out, r.Intn(60)-8)
	}
	return out
}

// All acts, drawn, come to what the words of the chapter say.
func TestStep(t *testing.T) {
	kinds := map[int]int{}
	for seed := range int64(40) {
		r := rand.New(rand.NewSource(seed))
		c := drawnCfg(r)
		w := made(t, c, drawnNumbers(r, 200), drawnNumbers(r, 40))
		m := model{c, plain(w)}
		for i := range 110 {
			a := drawnAct(r, c, w)
			want := m.step(a)
			m.w.Halted = m.halted()
			var answer api.Answer
			w, answer = step(t, c, w, a)
			if !same(answer, want) || !same(w, m.w) {
				t.Fatalf("%d, %d: %v: got %v", seed, i, a, answer)
			}
			kinds[answer.Kind]++
		}
	}
	for _, k := range []int{api.DoneR, api.AcceptedR, api.FullR, api.RejectedR, api.HaltedR, api.EmptyR, api.LetterR, api.StatusR} {
		if kinds[k] == 0 {
			t.Errorf("no answer was %d", k)
		}
	}
}

// With as many nodes as may be, all mind the time, though frames are lost.
func TestGreatest(t *testing.T) {
	c := cfg()
	c.Chain, c.Standby, c.Clients, c.Close, c.Long, c.Again = 8, 8, 8, 10, 40, 2
	fates := slices.Repeat([]int{0, 16, 0}, 60)
	fates[9], fates[23] = -1, -1 // the first client's onion, and the last one's
	w := made(t, c, fates, []int{9, 8, 7})
	m := model{c, plain(w)}
	sent := map[int]bool{}
	for range 30 {
		m.tick()
		w, _ = world.Step(c, w, tick())
	}
	if !same(w, m.w) {
		t.Error("another world")
	}
	for _, x := range w.Log {
		if !x.First && x.Len > 400 {
			sent[x.From] = true
		}
	}
	if !sent[24] || !sent[17] {
		t.Errorf("sent anew by %v", sent)
	}
}

func TestFirstTick(t *testing.T) {
	w, answer := step(t, cfg(), made(t, cfg(), []int{2, -1}, nil), tick())
	if !same(answer, api.Answer{}) || w.Now != 1 || len(w.Log) != 3 || len(w.Net.List) != 2 || len(w.Net.Fates) != 0 {
		t.Fatalf("got %v, %v", w, answer)
	}
	first := api.Stamp{Epoch: 1, Round: 1, Chain: []int{1, 2}}
	for i, x := range w.Log {
		if !same(x, api.Sent{Tick: 1, From: 0, To: 4 + i, Len: 2 + 19 + 9 + 3 + 32, Stamp: first, First: true}) {
			t.Errorf("%d: got %v", i, x)
		}
	}
	if w.Net.List[0].At != 4 || w.Net.List[1].At != 2 || w.Net.List[1].To != 6 {
		t.Errorf("got %v", w.Net.List)
	}
	w, _ = step(t, cfg(), w, tick())
	if len(w.Log) != 5 || w.Log[3].From != 6 || w.Log[3].To != 0 || w.Log[3].First || w.Log[4].To != 1 || !w.Log[4].First || !same(w.Log[4].Stamp, first) {
		t.Errorf("got %v", w.Log)
	}
}

func TestAnswers(t *testing.T) {
	c := cfg()
	w := run(t, c, made(t, c, nil, nil), 10)
	answered := func(name string, a api.Act, want api.Answer) {
		t.Helper()
		var answer api.Answer
		old := plain(w)
		w, answer = step(t, c, w, a)
		if !same(answer, want) {
			t.Errorf("%s: got %v", name, answer)
		}
		if want.Kind == api.RejectedR && !same(w, old) {
			t.Errorf("%s: something is changed", name)
		}
	}
	rejected := api.Answer{Kind: api.RejectedR}
	for _, who := range []int{minInt, -1, 3, 4, maxInt} {
		answered("send", say(who, 0, "x"), rejected)
		answered("receive", api.Act{Kind: api.ReceiveA, Who: who}, rejected)
		answered("status", api.Act{Kind: api.StatusA, Who: who}, rejected)
		answered("send", say(0, who, "x"), rejected)
	}
	for _, n := range []int{minInt, -1, 0, 4, 6, 7, maxInt} {
		answered("crash", api.Act{Kind: api.CrashA, Who: n}, rejected)
	}
	for _, n := range []int{minInt, -1, 7, maxInt} {
		answered("inject", api.Act{Kind: api.InjectA, Who: n, To: 1}, rejected)
		answered("inject", api.Act{Kind: api.InjectA, Who: 1, To: n}, rejected)
	}
	for n := range 7 {
		answered("inject to itself", api.Act{Kind: api.InjectA, Who: n, To: n}, rejected)
		answered("inject", api.Act{Kind: api.InjectA, Who: n, To: (n + 1) % 7, Bytes: []byte("x")}, api.Answer{})
	}
	for _, k := range []int{minInt, -1, 0, 7, maxInt} {
		answered("another kind", api.Act{Kind: k}, rejected)
	}
	answered("long", say(0, 1, string(make([]byte, 65))), rejected)
	for i := range 4 {
		answered("send", say(0, 2, string(rune('a'+i))), api.Answer{Kind: api.AcceptedR})
	}
	answered("full", say(0, 2, "x"), api.Answer{Kind: api.FullR})
	answered("status", api.Act{Kind: api.StatusA}, api.Answer{Kind: api.StatusR, Epoch: 1, Round: 1, Waiting: 4})
	answered("empty", api.Act{Kind: api.ReceiveA, Who: 2}, api.Answer{Kind: api.EmptyR})
	w = run(t, c, w, 40)
	answered("letter", api.Act{Kind: api.ReceiveA, Who: 2}, api.Answer{Kind: api.LetterR, Letter: api.Letter{To: 2, Seq: 1, Text: []byte("a")}})
	answered("status", api.Act{Kind: api.StatusA}, api.Answer{Kind: api.StatusR, Epoch: 1, Round: 3, Waiting: 3})
	answered("empty", api.Act{Kind: api.ReceiveA, Who: 2}, api.Answer{Kind: api.EmptyR})
	answered("crash", api.Act{Kind: api.CrashA, Who: 3}, api.Answer{})
	answered("crash again", api.Act{Kind: api.CrashA, Who: 3}, rejected)
	answered("crash", api.Act{Kind: api.CrashA, Who: 1}, api.Answer{})
	if !slices.Equal(w.Dead, []bool{true, false, true}) || !same(w.Servers[0], api.Server{}) || w.Servers[1].Post.Node != 2 {
		t.Errorf("got %v, %v", w.Dead, w.Servers)
	}
	w = run(t, c, w, 100)
	answered("no chain", api.Act{Kind: api.StatusA, Who: 1}, api.Answer{Kind: api.StatusR, Epoch: w.Coord.Post.Stamp.Epoch, Round: w.Coord.Post.Stamp.Round, NoChain: true})
	if !same(w.Servers[0], api.Server{}) {
		t.Errorf("a dead server hears: %v", w.Servers[0])
	}
}

// A world is halted, when a client's letters, or rounds, come to their end: it stays as it is.
func TestHalted(t *testing.T) {
	check := func(w api.World) {
		t.Helper()
		for _, a := range []api.Act{tick(), say(0, 1, "x"), {Kind: api.ReceiveA}, {Kind: api.StatusA, Who: 99}, {Kind: api.CrashA, Who: 1}, {Kind: api.InjectA, To: 1}, {}} {
			if got, answer := step(t, cfg(), w, a); !same(got, w) || !same(answer, api.Answer{Kind: api.HaltedR}) {
				t.Errorf("%v: got %v", a, answer)
			}
		}
	}
	c := cfg()
	c.Seq = most
	w := made(t, c, nil, nil)
	if !w.Halted {
		t.Error("not halted from the start")
	}
	check(w)
	c.Seq = most - 1
	w = run(t, c, made(t, c, nil, nil), 3)
	w, answer := step(t, c, w, say(2, 1, "last"))
	if answer.Kind != api.AcceptedR || !w.Halted {
		t.Errorf("got %v, %t", answer, w.Halted)
	}
	check(w)
	c = cfg()
	c.Round = most
	w = made(t, c, nil, nil)
	if w.Halted {
		t.Error("halted from the start")
	}
	w, answer = step(t, c, w, tick())
	if answer.Kind != api.DoneR || !w.Halted || len(w.Log) != 0 {
		t.Errorf("got %v, %v", answer, w)
	}
	check(w)
	c.Round = most - 1
	w = run(t, c, made(t, c, nil, nil), 24)
	if w.Halted {
		t.Error("halted in the last round")
	}
	w = run(t, c, w, 1)
	if !w.Halted {
		t.Error("not halted behind the last round")
	}
	check(w)
}

// What is done to one world changes nothing of another one that came of the same.
func TestShares(t *testing.T) {
	c := cfg()
	w := made(t, c, []int{1, 2, 3, 16, 17}, []int{1, 2, 3})
	w, _ = world.Step(c, w, say(0, 2, "hello"))
	w = run(t, c, w, 9)
	acts := []api.Act{tick(), say(0, 1, "a"), say(0, 1, "b"), {Kind: api.CrashA, Who: 1}, {Kind: api.CrashA, Who: 2}, {Kind: api.ReceiveA, Who: 2}}
	f := w.Net.List[0]
	acts = append(acts, api.Act{Kind: api.InjectA, Who: f.From, To: f.To, Bytes: f.Bytes})
	var worlds, olds []api.World
	for _, a := range acts {
		x, _ := step(t, c, w, a)
		for range 5 {
			x, _ = step(t, c, x, tick())
		}
		worlds, olds = append(worlds, x), append(olds, plain(x))
	}
	for i := range worlds {
		if !same(worlds[i], olds[i]) {
			t.Errorf("%d is changed", i)
		}
	}
}

// Of whatever worlds, and configurations, the calls end.
func TestEnds(t *testing.T) {
	c := cfg()
	good := run(t, c, made(t, c, nil, nil), 9)
	fewer := good
	fewer.Servers, fewer.Clients, fewer.Dead = nil, good.Clients[:1], []bool{false}
	noStore := good
	noStore.Shared = api.Shared{}
	flights := good
	flights.Net.List = []api.Flight{{To: minInt}, {To: maxInt}, {To: -1}, {From: 99, To: 1}, {To: 7}, {To: 3}}
	for _, w := range []api.World{{}, good, fewer, noStore, flights, {Now: maxInt, Dead: make([]bool, 40), Clients: make([]api.Client, 40), Servers: make([]api.Server, 40)}} {
		for _, c := range []api.Cfg{cfg(), {}, {Chain: 300, Standby: 300, Clients: 300}, {Chain: 9, Clients: 99, Window: maxInt}, {Chain: minInt, Clients: -1}} {
			for kind := range 8 {
				for _, who := range []int{minInt, 0, 1, 5, 7, 39, maxInt} {
					world.Step(c, w, api.Act{Kind: kind, Who: who, To: 2, Bytes: []byte("x")})
					world.Step(c, w, api.Act{Kind: kind, Who: 2, To: who, Bytes: []byte("x")})
				}
			}
		}
	}
}

// P21.3: what came of one client's letters to another one is a beginning of what it sent; a client sends at most one onion for the first time in each stamp; who is in an epoch sees one chain.
func TestFollows(t *testing.T) {
	letters := 0
	for seed := range int64(40) {
		r := rand.New(rand.NewSource(seed + 1000))
		c := drawnCfg(r)
		c.Seq, c.Round, c.Long = 1, 1, c.Close+10+r.Intn(20)
		w := made(t, c, drawnNumbers(r, 600), drawnNumbers(r, 40))
		var said, got [3][3][]string
		for range 900 {
			a := drawnAct(r, c, w)
			var answer api.Answer
			w, answer = world.Step(c, w, a)
			switch answer.Kind {
			case api.AcceptedR:
				said[a.Who][a.To] = append(said[a.Who][a.To], string(a.Text))
			case api.LetterR:
				l := answer.Letter
				if l.To != a.Who {
					t.Fatalf("%d: %d got %v", seed, a.Who, l)
				}
				got[l.From][l.To] = append(got[l.From][l.To], string(l.Text))
				letters++
			}
		}
		for from := range 3 {
			for to := range 3 {
				if g, s := got[from][to], said[from][to]; len(g) > len(s) || !slices.Equal(g, s[:len(g)]) {
					t.Fatalf("%d: %d got %q of %q of %d", seed, to, g, s, from)
				}
			}
		}
		type place struct {
			from         int
			epoch, round uint64
		}
		onions, chains := map[place]int{}, map[uint64][]int{}
		for _, x := range w.Log {
			if chain, ok := chains[x.Stamp.Epoch]; ok && !slices.Equal(chain, x.Stamp.Chain) {
				t.Fatalf("%d: %v, and %v in one epoch", seed, chain, x.Stamp.Chain)
			}
			chains[x.Stamp.Epoch] = x.Stamp.Chain
			if _, ok := key.Client(c, x.From); ok && x.First {
				onions[place{x.From, x.Stamp.Epoch, x.Stamp.Round}]++
			}
		}
		for p, many := range onions {
			if many != 1 {
				t.Fatalf("%d: %d onions in %v", seed, many, p)
			}
		}
	}
	if letters < 50 {
		t.Errorf("%d letters", letters)
	}
}

// P21.3: what is injected without the right tags changes nothing but the time, as it were.
func TestInjected(t *testing.T) {
	c := cfg()
	r := rand.New(rand.NewSource(3))
	w := made(t, c, nil, nil)
	for range 60 {
		w = run(t, c, w, 1)
		w, _ = world.Step(c, w, say(r.Intn(3), r.Intn(3), "x"))
		if len(w.Net.List) == 0 {
			continue
		}
		f := w.Net.List[r.Intn(len(w.Net.List))]
		b := slices.Clone(f.Bytes)
		b[r.Intn(len(b))] ^= 1 << r.Intn(8)
		for _, x := range [][]byte{b, f.Bytes[:r.Intn(len(f.Bytes))], nil} {
			if got, answer := step(t, c, w, api.Act{Kind: api.InjectA, Who: f.From, To: f.To, Bytes: x}); answer.Kind != api.DoneR || !same(got, w) {
				t.Fatalf("something is changed by %x", x)
			}
		}
		// The same, as if from somebody else.
		if got, _ := step(t, c, w, api.Act{Kind: api.InjectA, Who: (f.To + 1) % 7, To: f.To, Bytes: f.Bytes}); (f.To+1)%7 != f.From && !same(got, w) {
			t.Fatal("something is changed by what another one sent")
		}
	}
	// With the right tags it is heard, and acknowledged, now.
	n, _ := note.Put(api.Note{Kind: api.ReportN, Hop: 1})
	b, _ := frame.Put(key.Pair(c, 0, 2), api.Frame{From: 2, Stamp: w.Coord.Post.Stamp, Kind: api.DataF, Seq: 0, Body: n})
	w = made(t, c, nil, nil)
	w = run(t, c, w, 1)
	b, _ = frame.Put(key.Pair(c, 0, 2), api.Frame{From: 2, Stamp: w.Coord.Post.Stamp, Kind: api.DataF, Seq: 0, Body: n})
	got, _ := step(t, c, w, api.Act{Kind: api.InjectA, Who: 2, To: 0, Bytes: b})
	if !got.Coord.On[1] || len(got.Log) != len(w.Log)+1 || got.Now != 1 || got.Log[3].Tick != 1 || got.Log[3].From != 0 || got.Log[3].To != 2 {
		t.Errorf("got %v, %v", got.Coord, got.Log)
	}
}

// P21.3, and P0.3: what clients say changes nothing of who sends how much, when, to whom.
func TestOneShape(t *testing.T) {
	for seed := range int64(12) {
		r := rand.New(rand.NewSource(seed + 5))
		c := drawnCfg(r)
		c.Seq, c.Round = 1, 1
		fates, draws := drawnNumbers(r, 400), drawnNumbers(r, 40)
		crash := r.Intn(200)
		var logs [3][]api.Sent
		for talk := range 3 {
			w := made(t, c, fates, draws)
			for now := range 200 {
				if now == crash {
					w, _ = world.Step(c, w, api.Act{Kind: api.CrashA, Who: 1})
				}
				if talk == 1 || talk == 2 && now%5 == 0 {
					w, _ = world.Step(c, w, say(now%c.Clients, now/3%c.Clients, string(make([]byte, now%65))))
				}
				w, _ = world.Step(c, w, tick())
			}
			logs[talk] = w.Log
		}
		for talk := range 3 {
			if !slices.EqualFunc(logs[0], logs[talk], func(a, b api.Sent) bool {
				return a.Tick == b.Tick && a.From == b.From && a.To == b.To && a.Len == b.Len && a.First == b.First && stamp.Same(a.Stamp, b.Stamp)
			}) {
				t.Fatalf("%d: what is said can be told", seed)
			}
		}
	}
}

// A letter that comes is the one that was said, and its sender knows.
func TestLetter(t *testing.T) {
	c := cfg()
	text := bytes.Repeat([]byte{255}, 64)
	w, _ := world.Step(c, made(t, c, nil, nil), say(1, 1, string(text)))
	w = run(t, c, w, 26)
	if box := w.Shared.Store.Boxes[1]; len(box) != 1 || !letter.Same(box[0], api.Letter{From: 1, To: 1, Seq: 1, Text: text}) || len(w.Clients[1].Queue.Items) != 0 {
		t.Errorf("got %v, %v", w.Shared, w.Clients[1])
	}
}
