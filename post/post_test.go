package post_test

import (
	"bytes"
	"math/rand"
	"reflect"
	"slices"
	"testing"

	"shallot/api"
	"shallot/frame"
	"shallot/key"
	"shallot/post"
)

const (
	maxInt = 1<<63 - 1
	minInt = -1 << 63
)

func cfg() api.Cfg {
	return api.Cfg{Seed: []byte("post"), Chain: 2, Standby: 1, Clients: 2, Queue: 3, Close: 10, Long: 50, Again: 5, Window: 2, Round: 1, Seq: 1}
}

func at(epoch, round uint64) api.Stamp {
	return api.Stamp{Epoch: epoch, Round: round, Chain: []int{2, 1}}
}

// in tells the post of node 3 in a stamp, with links with 1 and 4.
func in() api.Post {
	return api.Post{Node: 3, Stamp: at(1, 5), Peers: []api.Peer{
		{Node: 1, Out: api.Out{Next: 1, Sent: []api.Item{{Seq: 0, Body: []byte("old"), At: 7}}}, In: api.In{Expect: 2}},
		{Node: 4, In: api.In{Expect: 0, Held: []api.Item{{Seq: 1, Body: []byte("held")}}}},
	}}
}

// roomy gives lists room behind them, into which nobody may write.
func roomy(p api.Post) api.Post {
	p.Peers = append(make([]api.Peer, 0, 9), p.Peers...)
	for i := range p.Peers {
		o := &p.Peers[i].Out
		o.Sent = append(make([]api.Item, 0, 9), o.Sent...)
		o.Wait = append(make([][]byte, 0, 9), o.Wait...)
		p.Peers[i].In.Held = append(make([]api.Item, 0, 9), p.Peers[i].In.Held...)
	}
	return p
}

func sameItems(a, b []api.Item) bool {
	return slices.EqualFunc(a, b, func(x, y api.Item) bool { return x.Seq == y.Seq && x.At == y.At && bytes.Equal(x.Body, y.Body) })
}

func samePeer(a, b api.Peer) bool {
	return a.Node == b.Node && a.Out.Next == b.Out.Next && sameItems(a.Out.Sent, b.Out.Sent) &&
		slices.EqualFunc(a.Out.Wait, b.Out.Wait, bytes.Equal) && a.In.Expect == b.In.Expect && sameItems(a.In.Held, b.In.Held)
}

func same(a, b api.Post) bool {
	return a.Node == b.Node && a.Stamp.Epoch == b.Stamp.Epoch && a.Stamp.Round == b.Stamp.Round &&
		slices.Equal(a.Stamp.Chain, b.Stamp.Chain) && slices.EqualFunc(a.Peers, b.Peers, samePeer)
}

func put(t *testing.T, f api.Frame) []byte {
	t.Helper()
	b, e := frame.Put(key.Pair(cfg(), f.From, f.To), f)
	if e != api.OK {
		t.Fatalf("%v: got %d", f, e)
	}
	return b
}

func dataTo(to, seq int, body string) api.Frame {
	return api.Frame{From: 3, To: to, Stamp: at(1, 5), Kind: api.DataF, Seq: seq, Body: []byte(body)}
}

func dataFrom(from, seq int, body string) api.Frame {
	return api.Frame{From: from, To: 3, Stamp: at(1, 5), Kind: api.DataF, Seq: seq, Body: []byte(body)}
}

func ackTo(to, seq int) api.Frame {
	return api.Frame{From: 3, To: to, Stamp: at(1, 5), Kind: api.AckF, Seq: seq}
}

func ackFrom(from, seq int) api.Frame {
	return api.Frame{From: from, To: 3, Stamp: at(1, 5), Kind: api.AckF, Seq: seq}
}

func parcels(t *testing.T, first bool, frames ...api.Frame) []api.Parcel {
	t.Helper()
	var out []api.Parcel
	for _, f := range frames {
		out = append(out, api.Parcel{To: f.To, Bytes: put(t, f), First: first})
	}
	return out
}

func sameParcels(a, b []api.Parcel) bool {
	return slices.EqualFunc(a, b, func(x, y api.Parcel) bool {
		return x.To == y.To && x.First == y.First && bytes.Equal(x.Bytes, y.Bytes)
	})
}

func zero(p api.Post) bool { return reflect.DeepEqual(p, api.Post{}) }

func TestNew(t *testing.T) {
	for _, n := range []int{minInt, -1, 6, 7, maxInt} {
		if p, e := post.New(cfg(), n); e != api.ErrArg || !zero(p) {
			t.Errorf("%d: got %v, %d", n, p, e)
		}
	}
	for n := range 6 {
		if p, e := post.New(cfg(), n); e != api.OK || !same(p, api.Post{Node: n}) {
			t.Errorf("%d: got %v, %d", n, p, e)
		}
	}
}

func TestGo(t *testing.T) {
	for _, x := range []struct {
		s     api.Stamp
		newer bool
	}{
		{at(1, 5), false}, {at(1, 4), false}, {at(0, 9), false}, {api.Stamp{}, false},
		{api.Stamp{Epoch: 1, Round: 5, Chain: []int{7}}, false},
		{at(1, 6), true}, {at(2, 0), true}, {at(2, 5), true}, {api.Stamp{Epoch: 1, Round: 6}, true},
		{api.Stamp{Epoch: api.MaxNumber, Chain: []int{99, -1}}, true},
	} {
		p := in()
		got := post.Go(p, x.s)
		want := in()
		if x.newer {
			want = api.Post{Node: 3, Stamp: x.s}
		}
		if !same(got, want) || !same(p, in()) {
			t.Errorf("%v: got %v", x.s, got)
		}
	}
	s := at(9, 9)
	p := post.Go(in(), s)
	s.Chain[0] = 7
	if p.Stamp.Chain[0] != 2 {
		t.Error("the chain is shared")
	}
	if p := post.Go(api.Post{Node: -5}, at(0, 0)); !same(p, api.Post{Node: -5}) {
		t.Errorf("at the same place: got %v", p)
	}
}

func TestSendWrong(t *testing.T) {
	refused := func(name string, p api.Post, to int, body []byte, want api.Errno) {
		t.Helper()
		if got, l, e := post.Send(cfg(), p, to, body, 9); e != want || !zero(got) || len(l) != 0 {
			t.Errorf("%s: got %v, %v, %d", name, got, l, e)
		}
	}
	long := make([]byte, 65537)
	for _, to := range []int{minInt, -1, 3, 6, maxInt} {
		refused("to", in(), to, nil, api.ErrArg)
		refused("to", in(), to, long, api.ErrArg)
	}
	for _, chain := range [][]int{nil, {0}, {17}, {1, 1}, {1, 2, 3, 4, 5, 6, 7, 8, 9}} {
		p := in()
		p.Stamp.Chain = chain
		refused("the stamp", p, 1, nil, api.ErrArg)
		refused("the stamp", p, 1, long, api.ErrArg)
	}
	refused("long", in(), 1, long, api.ErrLong)
	for node := range 6 {
		p, _ := post.New(cfg(), node)
		refused("new", p, (node+1)%6, []byte("x"), api.ErrArg)
	}
}

func TestSend(t *testing.T) {
	for _, x := range []struct {
		to, place int
		told      []api.Frame
		change    func(*api.Post)
	}{
		{1, 0, []api.Frame{dataTo(1, 1, "x")}, func(p *api.Post) {
			p.Peers[0].Out.Next = 2
			p.Peers[0].Out.Sent = append(p.Peers[0].Out.Sent, api.Item{Seq: 1, Body: []byte("x"), At: 9})
		}},
		{4, 1, []api.Frame{dataTo(4, 0, "x")}, func(p *api.Post) {
			p.Peers[1].Out = api.Out{Next: 1, Sent: []api.Item{{Body: []byte("x"), At: 9}}}
		}},
		{0, 0, []api.Frame{dataTo(0, 0, "x")}, func(p *api.Post) {
			p.Peers = slices.Insert(p.Peers, 0, api.Peer{Node: 0, Out: api.Out{Next: 1, Sent: []api.Item{{Body: []byte("x"), At: 9}}}})
		}},
		{2, 1, []api.Frame{dataTo(2, 0, "x")}, func(p *api.Post) {
			p.Peers = slices.Insert(p.Peers, 1, api.Peer{Node: 2, Out: api.Out{Next: 1, Sent: []api.Item{{Body: []byte("x"), At: 9}}}})
		}},
		{5, 2, []api.Frame{dataTo(5, 0, "x")}, func(p *api.Post) {
			p.Peers = append(p.Peers, api.Peer{Node: 5, Out: api.Out{Next: 1, Sent: []api.Item{{Body: []byte("x"), At: 9}}}})
		}},
	} {
		p, body := roomy(in()), []byte("x")
		got, l, e := post.Send(cfg(), p, x.to, body, 9)
		body[0] = 'y'
		want := in()
		x.change(&want)
		if e != api.OK || !same(got, want) || !sameParcels(l, parcels(t, true, x.told...)) || !same(p, in()) {
			t.Errorf("%d: got %v, %v, %d", x.to, got, l, e)
		}
		if rest := p.Peers[:9][2:]; !reflect.DeepEqual(rest, make([]api.Peer, 7)) {
			t.Errorf("%d: the room behind what was handed in is changed", x.to)
		}
	}
	// The window is full with two.
	p, _, _ := post.Send(cfg(), in(), 1, []byte("a"), 9)
	p, l, e := post.Send(cfg(), p, 1, []byte("b"), 9)
	if e != api.OK || len(l) != 0 || len(p.Peers[0].Out.Sent) != 2 || !slices.EqualFunc(p.Peers[0].Out.Wait, [][]byte{[]byte("b")}, bytes.Equal) {
		t.Errorf("got %v, %v, %d", p, l, e)
	}
	// 65536 bytes are not too many.
	if p, l, e := post.Send(cfg(), in(), 4, make([]byte, 65536), 9); e != api.OK || len(l) != 1 || len(p.Peers[1].Out.Sent) != 1 {
		t.Errorf("got %d, %d", len(l), e)
	}
}

// Of a frame that may not be there is no parcel; what the link has done stays done.
func TestSendNoFrame(t *testing.T) {
	p := in()
	p.Peers[1].Out.Next = 1 << 31
	got, l, e := post.Send(cfg(), p, 4, []byte("x"), 9)
	if e != api.OK || len(l) != 0 || got.Peers[1].Out.Next != 1<<31+1 || len(got.Peers[1].Out.Sent) != 1 {
		t.Errorf("got %v, %v, %d", got, l, e)
	}
	p = in()
	p.Node = 77
	got, l, e = post.Send(cfg(), p, 3, []byte("x"), 9)
	if e != api.OK || len(l) != 0 || len(got.Peers) != 3 || got.Peers[1].Node != 3 {
		t.Errorf("got %v, %v, %d", got, l, e)
	}
}

// The link is the first one of the node, wherever it stands.
func TestFirstLink(t *testing.T) {
	p := in()
	p.Peers = []api.Peer{{Node: 5}, {Node: 1}, {Node: 1, Out: api.Out{Next: 9}}, {Node: 0}}
	got, l, e := post.Send(cfg(), p, 1, []byte("x"), 9)
	if e != api.OK || !sameParcels(l, parcels(t, true, dataTo(1, 0, "x"))) || len(got.Peers) != 4 || got.Peers[1].Out.Next != 1 || got.Peers[2].Out.Next != 9 {
		t.Errorf("got %v, %v, %d", got, l, e)
	}
	got, _, _ = post.Send(cfg(), p, 4, []byte("x"), 9)
	if len(got.Peers) != 5 || got.Peers[0].Node != 4 || got.Peers[1].Node != 5 {
		t.Errorf("got %v", got)
	}
}

func TestTakeWrong(t *testing.T) {
	refused := func(name string, p api.Post, from int, b []byte, want api.Errno) {
		t.Helper()
		if got, bodies, l, e := post.Take(cfg(), p, from, b, 9); e != want || !zero(got) || len(bodies) != 0 || len(l) != 0 {
			t.Errorf("%s: got %v, %q, %v, %d", name, got, bodies, l, e)
		}
	}
	good := put(t, dataFrom(1, 2, "x"))
	for _, from := range []int{minInt, -1, 3, 6, maxInt} {
		refused("from", in(), from, good, api.ErrArg)
		refused("from", in(), from, nil, api.ErrArg)
	}
	for n := range len(good) {
		if _, _, _, e := post.Take(cfg(), in(), 1, good[:n], 9); e != api.ErrForm {
			t.Errorf("%d bytes: got %d", n, e)
		}
	}
	refused("nil", in(), 1, nil, api.ErrForm)
	refused("as from another one", in(), 4, good, api.ErrTag)
	bad := slices.Clone(good)
	bad[len(bad)-1] ^= 1
	refused("the tag", in(), 1, bad, api.ErrTag)
	wrongTo, _ := frame.Put(key.Pair(cfg(), 1, 3), api.Frame{From: 1, To: 4, Stamp: at(1, 5), Kind: api.DataF})
	refused("to another one", in(), 1, wrongTo, api.ErrArg)
	back, _ := frame.Put(key.Pair(cfg(), 1, 3), api.Frame{From: 3, To: 1, Stamp: at(1, 5), Kind: api.DataF})
	refused("its own", in(), 1, back, api.ErrArg)
	wrongFrom, _ := frame.Put(key.Pair(cfg(), 1, 3), api.Frame{From: 4, To: 3, Stamp: at(1, 4), Kind: api.DataF})
	refused("from another one, and old", in(), 1, wrongFrom, api.ErrArg)
	for _, s := range []api.Stamp{at(1, 4), at(0, 6), at(0, api.MaxNumber), {Epoch: 1, Round: 5, Chain: []int{1, 2}}, {Epoch: 1, Round: 5, Chain: []int{2}}, {Epoch: 1, Round: 5, Chain: []int{2, 1, 3}}} {
		for _, f := range []api.Frame{dataFrom(1, 2, "x"), ackFrom(1, 1)} {
			f.Stamp = s
			refused("the stamp", in(), 1, put(t, f), api.ErrNone)
		}
	}
	f := dataFrom(1, 0, "x")
	f.Stamp = at(0, 0)
	refused("at the place of no stamp", api.Post{Node: 3}, 1, put(t, f), api.ErrNone)
}

func TestTakeData(t *testing.T) {
	for i, x := range []struct {
		f      api.Frame
		bodies []string
		ack    api.Frame
		change func(*api.Post)
	}{
		{dataFrom(1, 2, "x"), []string{"x"}, ackTo(1, 3), func(p *api.Post) { p.Peers[0].In.Expect = 3 }},
		{dataFrom(1, 3, "x"), nil, ackTo(1, 2), func(p *api.Post) { p.Peers[0].In.Held = []api.Item{{Seq: 3, Body: []byte("x")}} }},
		{dataFrom(1, 4, "x"), nil, ackTo(1, 2), func(p *api.Post) {}},
		{dataFrom(1, 1, "x"), nil, ackTo(1, 2), func(p *api.Post) {}},
		{dataFrom(4, 0, "x"), []string{"x", "held"}, ackTo(4, 2), func(p *api.Post) { p.Peers[1].In = api.In{Expect: 2} }},
		{dataFrom(4, 1, "x"), nil, ackTo(4, 0), func(p *api.Post) {}},
		{dataFrom(0, 0, ""), []string{""}, ackTo(0, 1), func(p *api.Post) {
			p.Peers = slices.Insert(p.Peers, 0, api.Peer{Node: 0, In: api.In{Expect: 1}})
		}},
		{dataFrom(2, 7, "x"), nil, ackTo(2, 0), func(p *api.Post) {
			p.Peers = slices.Insert(p.Peers, 1, api.Peer{Node: 2})
		}},
		{dataFrom(5, 1, "x"), nil, ackTo(5, 0), func(p *api.Post) {
			p.Peers = append(p.Peers, api.Peer{Node: 5, In: api.In{Held: []api.Item{{Seq: 1, Body: []byte("x")}}}})
		}},
	} {
		p := roomy(in())
		b := put(t, x.f)
		got, bodies, l, e := post.Take(cfg(), p, x.f.From, b, 9)
		for i := range b {
			b[i]++
		}
		want := in()
		x.change(&want)
		var wantBodies [][]byte
		for _, s := range x.bodies {
			wantBodies = append(wantBodies, []byte(s))
		}
		if e != api.OK || !same(got, want) || !slices.EqualFunc(bodies, wantBodies, bytes.Equal) || !sameParcels(l, parcels(t, false, x.ack)) {
			t.Errorf("%d: got %v, %q, %v, %d", i, got, bodies, l, e)
		}
		if !same(p, in()) {
			t.Errorf("%d: what was handed in is changed", i)
		}
	}
	// A number that an AckF can not tell: no parcel, but the body is told.
	p := in()
	p.Peers[0].In.Expect = 1<<31 - 1
	got, bodies, l, e := post.Take(cfg(), p, 1, put(t, dataFrom(1, 1<<31-1, "x")), 9)
	if e != api.OK || got.Peers[0].In.Expect != 1<<31 || len(bodies) != 1 || len(l) != 0 {
		t.Errorf("got %v, %q, %v, %d", got, bodies, l, e)
	}
}

func TestTakeAck(t *testing.T) {
	full := in()
	full.Peers[0].Out = api.Out{Next: 2, Sent: []api.Item{{Seq: 0, Body: []byte("a"), At: 7}, {Seq: 1, Body: []byte("b"), At: 8}}, Wait: [][]byte{[]byte("c"), []byte("d"), []byte("e")}}
	for i, x := range []struct {
		f      api.Frame
		told   []api.Frame
		change func(*api.Post)
	}{
		{ackFrom(1, 0), nil, func(p *api.Post) {}},
		{ackFrom(1, 1), []api.Frame{dataTo(1, 2, "c")}, func(p *api.Post) {
			p.Peers[0].Out = api.Out{Next: 3, Sent: []api.Item{{Seq: 1, Body: []byte("b"), At: 8}, {Seq: 2, Body: []byte("c"), At: 9}}, Wait: [][]byte{[]byte("d"), []byte("e")}}
		}},
		{ackFrom(1, 1<<31-1), []api.Frame{dataTo(1, 2, "c"), dataTo(1, 3, "d")}, func(p *api.Post) {
			p.Peers[0].Out = api.Out{Next: 4, Sent: []api.Item{{Seq: 2, Body: []byte("c"), At: 9}, {Seq: 3, Body: []byte("d"), At: 9}}, Wait: [][]byte{[]byte("e")}}
		}},
		{ackFrom(4, 9), nil, func(p *api.Post) {}},
		{ackFrom(2, 1), nil, func(p *api.Post) { p.Peers = slices.Insert(p.Peers, 1, api.Peer{Node: 2}) }},
	} {
		p := roomy(full)
		got, bodies, l, e := post.Take(cfg(), p, x.f.From, put(t, x.f), 9)
		want := full
		want.Peers = slices.Clone(full.Peers)
		x.change(&want)
		if e != api.OK || !same(got, want) || len(bodies) != 0 || !sameParcels(l, parcels(t, true, x.told...)) || !same(p, full) {
			t.Errorf("%d: got %v, %q, %v, %d", i, got, bodies, l, e)
		}
	}
}

// What is of a newer stamp ends all links.
func TestTakeNewer(t *testing.T) {
	for _, s := range []api.Stamp{at(1, 6), at(2, 0), {Epoch: 2, Round: 1, Chain: []int{16}}, at(api.MaxNumber, api.MaxNumber)} {
		for _, p := range []api.Post{in(), {Node: 3}, {Node: 3, Stamp: api.Stamp{Chain: []int{99}}}} {
			f := dataFrom(4, 0, "new")
			f.Stamp = s
			got, bodies, l, e := post.Take(cfg(), p, 4, put(t, f), 9)
			ack := ackTo(4, 1)
			ack.Stamp = s
			want := api.Post{Node: 3, Stamp: s, Peers: []api.Peer{{Node: 4, In: api.In{Expect: 1}}}}
			if e != api.OK || !same(got, want) || !slices.EqualFunc(bodies, [][]byte{[]byte("new")}, bytes.Equal) || !sameParcels(l, parcels(t, false, ack)) {
				t.Errorf("%v: got %v, %q, %v, %d", s, got, bodies, l, e)
			}
			f = ackFrom(4, 5)
			f.Stamp = s
			got, bodies, l, e = post.Take(cfg(), p, 4, put(t, f), 9)
			want = api.Post{Node: 3, Stamp: s, Peers: []api.Peer{{Node: 4}}}
			if e != api.OK || !same(got, want) || len(bodies)+len(l) != 0 {
				t.Errorf("%v: got %v, %q, %v, %d", s, got, bodies, l, e)
			}
		}
	}
}

func TestAgain(t *testing.T) {
	p := api.Post{Node: 3, Stamp: at(1, 5), Peers: []api.Peer{
		{Node: 4, Out: api.Out{Next: 9, Sent: []api.Item{{Seq: 7, Body: []byte("a"), At: 4}, {Seq: 8, Body: []byte("b"), At: 5}}, Wait: [][]byte{[]byte("w")}}},
		{Node: 1, Out: api.Out{Sent: []api.Item{{Seq: 1, Body: []byte("c"), At: 1}}}, In: api.In{Expect: 4}},
		{Node: 4, Out: api.Out{Sent: []api.Item{{Seq: 3, Body: []byte("d"), At: -9}}}},
		{Node: 3, Out: api.Out{Sent: []api.Item{{Seq: 3, Body: []byte("e"), At: -9}}}},
		{Node: 99, Out: api.Out{Sent: []api.Item{{Seq: 3, Body: []byte("f"), At: -9}}}},
		{Node: 2, Out: api.Out{Sent: []api.Item{{Seq: -3, Body: []byte("g"), At: -9}, {Seq: 1 << 31, At: -9}, {Seq: 5, Body: []byte("h"), At: -9}}}},
		{Node: 0},
	}}
	clone := func() api.Post {
		c := p
		c.Peers = slices.Clone(p.Peers)
		for i := range c.Peers {
			c.Peers[i].Out.Sent = slices.Clone(c.Peers[i].Out.Sent)
		}
		return c
	}
	old, want := clone(), clone()
	for i := range want.Peers {
		for j := range want.Peers[i].Out.Sent {
			if want.Peers[i].Out.Sent[j].At < 5 {
				want.Peers[i].Out.Sent[j].At = 9
			}
		}
	}
	got, l := post.Again(cfg(), p, 9)
	if !same(got, want) || !same(p, old) || !sameParcels(l, parcels(t, false, dataTo(4, 7, "a"), dataTo(1, 1, "c"), dataTo(4, 3, "d"), dataTo(2, 5, "h"))) {
		t.Errorf("got %v, %v", got, l)
	}
	got, l = post.Again(cfg(), got, 13)
	if !sameParcels(l, parcels(t, false, dataTo(4, 8, "b"))) || got.Peers[0].Out.Sent[1].At != 13 || got.Peers[0].Out.Sent[0].At != 9 {
		t.Errorf("got %v, %v", got, l)
	}
	if got, l := post.Again(cfg(), api.Post{Node: 3}, 9); len(l) != 0 || !same(got, api.Post{Node: 3}) {
		t.Errorf("new: got %v, %v", got, l)
	}
	// Without a stamp there is no frame, but the link does it.
	p = api.Post{Node: 3, Peers: []api.Peer{{Node: 1, Out: api.Out{Sent: []api.Item{{}}}}}}
	if got, l := post.Again(cfg(), p, 9); len(l) != 0 || got.Peers[0].Out.Sent[0].At != 9 || p.Peers[0].Out.Sent[0].At != 0 {
		t.Errorf("got %v, %v", got, l)
	}
}

// Of whatever configurations the calls end.
func TestEnds(t *testing.T) {
	for _, c := range []api.Cfg{{}, {Chain: maxInt, Standby: maxInt, Clients: maxInt}, {Chain: minInt, Window: minInt, Again: minInt}, {Chain: 1 << 40, Clients: 1 << 40, Window: maxInt}} {
		for _, n := range []int{minInt, -1, 0, 1, 4, maxInt} {
			post.New(c, n)
			post.Send(c, in(), n, []byte("x"), n)
			post.Take(c, in(), n, put(t, dataFrom(1, 2, "x")), n)
			post.Again(c, in(), n)
		}
	}
}

type packet struct {
	from, to int
	bytes    []byte
}

// P15.5: two posts that are in one stamp tell each other's bodies in order, each once, whatever the net does; what is of an older stamp changes nothing.
func TestFollows(t *testing.T) {
	c := cfg()
	for seed := range int64(40) {
		r := rand.New(rand.NewSource(seed))
		var posts [2]api.Post
		var sent, got [2][][]byte
		var old [][]byte // what was of the older stamp
		var way []packet
		for i, node := range []int{1, 4} {
			p, _ := post.New(c, node)
			p = post.Go(p, at(1, 1))
			_, l, _ := post.Send(c, p, 5-node, []byte("old"), 0)
			old = append(old, l[0].Bytes)
			posts[i] = post.Go(p, at(1, 2))
		}
		lay := func(from int, l []api.Parcel) {
			for _, x := range l {
				way = append(way, packet{from, x.To, x.Bytes})
			}
		}
		index := map[int]int{1: 0, 4: 1}
		for now := range 400 {
			calm := now > 120
			for i := range posts {
				if !calm && len(sent[i]) < 20 && r.Intn(3) == 0 {
					body := []byte{byte(i), byte(len(sent[i]))}
					sent[i] = append(sent[i], body)
					var l []api.Parcel
					posts[i], l, _ = post.Send(c, posts[i], posts[1-i].Node, body, now)
					lay(posts[i].Node, l)
				}
				var l []api.Parcel
				posts[i], l = post.Again(c, posts[i], now)
				lay(posts[i].Node, l)
				if next, _, _, e := post.Take(c, posts[i], posts[1-i].Node, old[1-i], now); e != api.ErrNone || !zero(next) {
					t.Fatalf("%d: what is old is taken: %d", seed, e)
				}
			}
			for range len(way) {
				at := r.Intn(len(way))
				p := way[at]
				if calm || r.Intn(4) > 0 {
					way = slices.Delete(way, at, at+1)
				}
				if !calm && r.Intn(3) == 0 {
					continue
				}
				i := index[p.to]
				next, bodies, l, e := post.Take(c, posts[i], p.from, p.bytes, now)
				if e != api.OK {
					t.Fatalf("%d: got %d", seed, e)
				}
				posts[i] = next
				got[i] = append(got[i], bodies...)
				lay(p.to, l)
			}
			for i := range posts {
				if len(got[i]) > len(sent[1-i]) || !slices.EqualFunc(got[i], sent[1-i][:len(got[i])], bytes.Equal) {
					t.Fatalf("%d: told %q of %q", seed, got[i], sent[1-i])
				}
			}
		}
		if len(got[0]) != len(sent[1]) || len(got[1]) != len(sent[0]) {
			t.Fatalf("%d: told %d of %d, %d of %d", seed, len(got[0]), len(sent[1]), len(got[1]), len(sent[0]))
		}
	}
}
