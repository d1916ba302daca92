package client_test

import (
	"bytes"
	"math/rand"
	"reflect"
	"slices"
	"testing"

	"shallot/api"
	"shallot/client"
	"shallot/frame"
	"shallot/key"
	"shallot/layer"
	"shallot/letter"
	"shallot/note"
	"shallot/onion"
	"shallot/post"
	"shallot/queue"
)

const (
	maxInt = 1<<63 - 1
	minInt = -1 << 63
)

// The servers are the nodes 1 to 4, the clients 5 to 7.
func cfg() api.Cfg {
	return api.Cfg{Seed: []byte("client"), Chain: 3, Standby: 1, Clients: 3, Queue: 2, Close: 10, Long: 50, Again: 5, Window: 4, Round: 1, Seq: 7}
}

func at(epoch, round uint64) api.Stamp {
	return api.Stamp{Epoch: epoch, Round: round, Chain: []int{4, 1, 3}}
}

func made(t *testing.T, who int, texts ...string) api.Client {
	t.Helper()
	x, e := client.New(cfg(), who)
	if e != api.OK {
		t.Fatalf("%d: got %d", who, e)
	}
	for _, s := range texts {
		var answer int
		if x, answer = client.Say(cfg(), x, 2, []byte(s)); answer != api.AcceptedR {
			t.Fatalf("%s: got %d", s, answer)
		}
	}
	return x
}

func body(t *testing.T, n api.Note) []byte {
	t.Helper()
	b, e := note.Put(n)
	if e != api.OK {
		t.Fatalf("%v: got %d", n, e)
	}
	return b
}

func data(t *testing.T, from, to int, s api.Stamp, seq int, b []byte) []byte {
	t.Helper()
	out, e := frame.Put(key.Pair(cfg(), from, to), api.Frame{From: from, To: to, Stamp: s, Kind: api.DataF, Seq: seq, Body: b})
	if e != api.OK {
		t.Fatalf("got %d", e)
	}
	return out
}

func ack(t *testing.T, from, to int, s api.Stamp, seq int) []byte {
	t.Helper()
	out, e := frame.Put(key.Pair(cfg(), from, to), api.Frame{From: from, To: to, Stamp: s, Kind: api.AckF, Seq: seq})
	if e != api.OK {
		t.Fatalf("got %d", e)
	}
	return out
}

// cloned tells a client that shares nothing with another one.
func cloned(x api.Client) api.Client {
	x.Post.Stamp.Chain = slices.Clone(x.Post.Stamp.Chain)
	x.Post.Peers = slices.Clone(x.Post.Peers)
	for i := range x.Post.Peers {
		q := &x.Post.Peers[i]
		q.Out.Sent = items(q.Out.Sent)
		q.In.Held = items(q.In.Held)
		q.Out.Wait = slices.Clone(q.Out.Wait)
		for j := range q.Out.Wait {
			q.Out.Wait[j] = slices.Clone(q.Out.Wait[j])
		}
	}
	x.Queue.Items = slices.Clone(x.Queue.Items)
	for i := range x.Queue.Items {
		x.Queue.Items[i].Text = slices.Clone(x.Queue.Items[i].Text)
	}
	x.Want = slices.Clone(x.Want)
	return x
}

func items(l []api.Item) []api.Item {
	l = slices.Clone(l)
	for i := range l {
		l[i].Body = slices.Clone(l[i].Body)
	}
	return l
}

func sameItems(a, b []api.Item) bool {
	return slices.EqualFunc(a, b, func(x, y api.Item) bool { return x.Seq == y.Seq && x.At == y.At && bytes.Equal(x.Body, y.Body) })
}

func samePost(a, b api.Post) bool {
	return a.Node == b.Node && a.Stamp.Epoch == b.Stamp.Epoch && a.Stamp.Round == b.Stamp.Round &&
		slices.Equal(a.Stamp.Chain, b.Stamp.Chain) && slices.EqualFunc(a.Peers, b.Peers, func(x, y api.Peer) bool {
		return x.Node == y.Node && x.Out.Next == y.Out.Next && sameItems(x.Out.Sent, y.Out.Sent) &&
			slices.EqualFunc(x.Out.Wait, y.Out.Wait, bytes.Equal) && x.In.Expect == y.In.Expect && sameItems(x.In.Held, y.In.Held)
	})
}

func sameQueue(a, b api.Queue) bool {
	return a.Next == b.Next && slices.EqualFunc(a.Items, b.Items, letter.Same)
}

func same(a, b api.Client) bool {
	return a.Who == b.Who && samePost(a.Post, b.Post) && sameQueue(a.Queue, b.Queue) && a.Said == b.Said && bytes.Equal(a.Want, b.Want) && a.Seq == b.Seq
}

func sameParcels(a, b []api.Parcel) bool {
	return slices.EqualFunc(a, b, func(x, y api.Parcel) bool {
		return x.To == y.To && x.First == y.First && bytes.Equal(x.Bytes, y.Bytes)
	})
}

func zero(x api.Client) bool { return reflect.DeepEqual(x, api.Client{}) }

// hear lets a client hear, and tells what the post alone would have come to.
func hear(t *testing.T, x api.Client, from int, b []byte, now int) (got api.Client, l []api.Parcel, p api.Post, acks []api.Parcel) {
	t.Helper()
	old := cloned(x)
	got, l, e := client.Hear(cfg(), x, from, b, now)
	if e != api.OK {
		t.Fatalf("got %d", e)
	}
	if !same(x, old) {
		t.Error("what was handed in is changed")
	}
	p, _, acks, e = post.Take(cfg(), x.Post, from, b, now)
	if e != api.OK {
		t.Fatalf("got %d", e)
	}
	return got, l, p, acks
}

func TestNew(t *testing.T) {
	for _, who := range []int{minInt, -1, 3, 8, maxInt} {
		if x, e := client.New(cfg(), who); e != api.ErrArg || !zero(x) {
			t.Errorf("%d: got %v, %d", who, x, e)
		}
	}
	for who := range 3 {
		x, e := client.New(cfg(), who)
		if e != api.OK || !same(x, api.Client{Who: who, Post: api.Post{Node: 5 + who}, Queue: api.Queue{Next: 7}}) {
			t.Errorf("%d: got %v, %d", who, x, e)
		}
	}
}

func TestSay(t *testing.T) {
	x := made(t, 1, "first")
	x.Said, x.Want, x.Seq = true, []byte("want"), 5
	for _, y := range []struct{ to, many int }{{2, 5}, {1, 64}, {0, 0}, {3, 5}, {-1, 5}, {0, 65}, {maxInt, 5}} {
		text := bytes.Repeat([]byte("t"), y.many)
		old := cloned(x)
		got, answer := client.Say(cfg(), x, y.to, text)
		q, want := queue.Put(cfg(), x.Queue, 1, y.to, bytes.Repeat([]byte("t"), y.many))
		clear(text)
		x.Queue = q
		if answer != want || !same(got, x) {
			t.Errorf("%v: got %v, %d", y, got, answer)
		}
		x = old
	}
	for i := range 2 {
		var answer int
		x, answer = client.Say(cfg(), x, 0, []byte("more"))
		if want := []int{api.AcceptedR, api.FullR}[i]; answer != want || len(x.Queue.Items) != 2 || x.Queue.Items[1].From != 1 || x.Queue.Items[1].Seq != 8 {
			t.Errorf("%d: got %v, %d", i, x, answer)
		}
	}
	x.Queue.Next = api.MaxNumber
	if _, answer := client.Say(cfg(), x, 0, nil); answer != api.HaltedR {
		t.Errorf("got %d", answer)
	}
	x.Who = 3
	if _, answer := client.Say(cfg(), x, 0, nil); answer != api.RejectedR {
		t.Errorf("got %d", answer)
	}
}

func TestOnionWrong(t *testing.T) {
	refused := func(name string, x api.Client, s api.Stamp, want api.Errno) {
		t.Helper()
		if b, w, e := client.Onion(cfg(), x, s); e != want || len(b)+len(w) != 0 {
			t.Errorf("%s: got %x, %x, %d", name, b, w, e)
		}
	}
	long := made(t, 0, "a")
	long.Queue.Items[0].Text = make([]byte, 65)
	for _, who := range []int{minInt, -1, 3, maxInt} {
		x := made(t, 0, "a")
		x.Who = who
		refused("who", x, at(1, 1), api.ErrArg)
		y := long
		y.Who = who
		refused("who", y, at(1, 1), api.ErrArg)
	}
	for _, chain := range [][]int{nil, {0}, {17}, {1, 1}, {1, 2, 3, 4, 5, 6, 7, 8, 9}, {5}, {1, 5}, {5, 1}, {1, 2, 16}} {
		refused("the chain", made(t, 0, "a"), api.Stamp{Epoch: 1, Round: 1, Chain: chain}, api.ErrArg)
		refused("the chain", long, api.Stamp{Epoch: 1, Round: 1, Chain: chain}, api.ErrArg)
	}
	refused("long", long, at(1, 1), api.ErrLong)
	for _, l := range []api.Letter{{}, {From: 8, Seq: 1}, {Cover: true, Seq: 1}, {To: -1, Seq: 4}} {
		x := made(t, 0)
		x.Queue.Items = []api.Letter{l}
		refused("the letter", x, at(1, 1), api.ErrArg)
	}
}

func TestOnion(t *testing.T) {
	cover := made(t, 1)
	cover.Queue.Items = []api.Letter{{Cover: true}, {From: 1, Seq: 1}}
	for i, y := range []struct {
		x    api.Client
		said api.Letter
	}{
		{made(t, 1), api.Letter{Cover: true}},
		{cover, api.Letter{Cover: true}},
		{made(t, 1, "hi"), api.Letter{From: 1, To: 2, Seq: 7, Text: []byte("hi")}},
		{made(t, 0, "hi", "there"), api.Letter{From: 0, To: 2, Seq: 7, Text: []byte("hi")}},
	} {
		for _, chain := range [][]int{{4}, {4, 1, 3}, {1, 2}, {3, 2, 1, 4}} {
			s := api.Stamp{Epoch: 9, Round: 5, Chain: chain}
			// The post's own stamp, and node, say nothing.
			x := y.x
			x.Post = api.Post{Node: 99}
			old := cloned(x)
			b, want, e := client.Onion(cfg(), x, s)
			if e != api.OK || len(b) != onion.Len(len(chain)) || !same(x, old) {
				t.Fatalf("%d, %v: got %x, %d", i, chain, b, e)
			}
			nonces, _ := onion.Nonces(key.Secret(cfg(), 5+x.Who), s)
			var k []byte
			for hop, server := range chain {
				b, k, e = onion.Peel(key.Onion(cfg(), server), hop, len(chain), b)
				if e != api.OK || !bytes.Equal(k, layer.Key(key.Onion(cfg(), server), nonces[hop])) {
					t.Fatalf("%d, %v: got %x, %d", i, chain, k, e)
				}
			}
			said, e := letter.Take(b)
			if e != api.OK || !letter.Same(said, y.said) {
				t.Errorf("%d, %v: got %v, %d", i, chain, said, e)
			}
			if said.Cover && len(want) != 0 || !said.Cover && !bytes.Equal(want, layer.Reply(k, 1)) {
				t.Errorf("%d, %v: waits for %x", i, chain, want)
			}
		}
	}
}

func TestHearWrong(t *testing.T) {
	x := made(t, 0, "hi")
	x.Post = post.Go(x.Post, at(1, 5))
	good := data(t, 0, 5, at(1, 5), 0, body(t, api.Note{Kind: api.AnnounceN}))
	for i, y := range []struct {
		from int
		b    []byte
		want api.Errno
	}{
		{-1, good, api.ErrArg}, {8, good, api.ErrArg}, {5, good, api.ErrArg}, {0, nil, api.ErrForm}, {0, good[1:], api.ErrForm}, {1, good, api.ErrTag},
		{0, data(t, 0, 5, at(1, 4), 0, nil), api.ErrNone},
		{0, data(t, 0, 5, api.Stamp{Epoch: 1, Round: 5, Chain: []int{1}}, 0, nil), api.ErrNone},
	} {
		if got, l, e := client.Hear(cfg(), x, y.from, y.b, 3); e != y.want || !zero(got) || len(l) != 0 {
			t.Errorf("%d: got %v, %v, %d", i, got, l, e)
		}
	}
}

// A client that is told of a round sends one onion, whatever it has to say.
func TestAnnounce(t *testing.T) {
	for _, texts := range [][]string{nil, {"hi"}, {"hi", "there"}} {
		x := made(t, 1, texts...)
		s := at(1, 5)
		b := data(t, 0, 6, s, 0, body(t, api.Note{Kind: api.AnnounceN}))
		got, l, p, acks := hear(t, x, 0, b, 3)
		sent, want, _ := client.Onion(cfg(), x, s)
		p, parcels, _ := post.Send(cfg(), p, 4, body(t, api.Note{Kind: api.SubmitN, Parts: [][]byte{sent}}), 3)
		wanted := cloned(x)
		wanted.Post, wanted.Said, wanted.Want = p, true, want
		if len(texts) > 0 {
			wanted.Seq = 7
		}
		if !same(got, wanted) || !sameParcels(l, slices.Concat(acks, parcels)) || len(parcels) != 1 || len(acks) != 1 || (len(got.Want) > 0) != (len(texts) > 0) {
			t.Errorf("%v: got %v, %v", texts, got, l)
		}
		// Told of it again, in another frame, it sends nothing more.
		b = data(t, 0, 6, s, 1, body(t, api.Note{Kind: api.AnnounceN}))
		again, l, p, acks := hear(t, got, 0, b, 4)
		wanted = cloned(got)
		wanted.Post = p
		if !same(again, wanted) || !sameParcels(l, acks) {
			t.Errorf("%v, again: got %v, %v", texts, again, l)
		}
		// Told of a newer one, it does it anew.
		b = data(t, 0, 6, at(1, 6), 0, body(t, api.Note{Kind: api.AnnounceN}))
		newer, l, _, _ := hear(t, got, 0, b, 5)
		sent, want, _ = client.Onion(cfg(), x, at(1, 6))
		if !newer.Said || !bytes.Equal(newer.Want, want) || newer.Seq != wanted.Seq || len(l) != 2 || len(newer.Post.Peers) != 2 || len(sent) != 222 {
			t.Errorf("%v, newer: got %v, %v", texts, newer, l)
		}
	}
}

// Whoever else says it, or whatever else is said, does nothing.
func TestNothing(t *testing.T) {
	x := made(t, 1, "hi")
	x.Post = post.Go(x.Post, at(1, 5))
	nothing := func(name string, x api.Client, from int, b []byte) {
		t.Helper()
		got, l, p, acks := hear(t, x, from, data(t, from, 6, x.Post.Stamp, 0, b), 3)
		want := cloned(x)
		want.Post = p
		if !same(got, want) || !sameParcels(l, acks) {
			t.Errorf("%s from %d: got %v, %v", name, from, got, l)
		}
	}
	announce := body(t, api.Note{Kind: api.AnnounceN})
	for _, from := range []int{1, 2, 4, 5, 7} {
		nothing("an announcement", x, from, announce)
	}
	part := [][]byte{make([]byte, 32)}
	for _, n := range []api.Note{{Kind: api.CloseN}, {Kind: api.SubmitN, Parts: part}, {Kind: api.BatchN}, {Kind: api.BackN}, {Kind: api.ReceiptN, Parts: part}, {Kind: api.ReportN}} {
		nothing("another note", x, 0, body(t, n))
		nothing("another note", x, 4, body(t, n))
	}
	nothing("no note", x, 0, nil)
	nothing("no note", x, 0, append(announce, 0))
	nothing("no note", x, 0, []byte{9, 0, 0})
	said := cloned(x)
	said.Said = true
	nothing("again", said, 0, announce)
	// Its letter may not be, or the chain has a server that is none of c's.
	wrong := cloned(x)
	wrong.Queue.Items[0].Text = make([]byte, 65)
	nothing("a letter too long", wrong, 0, announce)
	wrong = cloned(x)
	wrong.Who = 3
	nothing("no client", wrong, 0, announce)
	wrong = cloned(x)
	wrong.Post.Stamp.Chain = []int{1, 9}
	nothing("no server", wrong, 0, announce)
}

// A stamp that is newer ends what is waited for, whatever is said.
func TestNewer(t *testing.T) {
	x := made(t, 1, "hi")
	x.Post = post.Go(x.Post, at(1, 5))
	x.Said, x.Want, x.Seq = true, []byte("want"), 7
	for _, b := range [][]byte{data(t, 2, 6, at(1, 6), 5, nil), ack(t, 2, 6, at(2, 0), 5)} {
		got, l, p, acks := hear(t, x, 2, b, 3)
		if !same(got, api.Client{Who: 1, Post: p, Queue: x.Queue}) || !sameParcels(l, acks) {
			t.Errorf("got %v, %v", got, l)
		}
	}
	// In the same stamp nothing is ended.
	got, _, p, _ := hear(t, x, 2, data(t, 2, 6, at(1, 5), 5, nil), 3)
	want := cloned(x)
	want.Post = p
	if !same(got, want) {
		t.Errorf("got %v", got)
	}
}

func TestReceipt(t *testing.T) {
	x := made(t, 1, "hi", "there")
	x.Post = post.Go(x.Post, at(1, 5))
	x.Said, x.Want, x.Seq = true, bytes.Repeat([]byte{5}, 32), 7
	good := body(t, api.Note{Kind: api.ReceiptN, Parts: [][]byte{bytes.Repeat([]byte{5}, 32)}})
	got, l, p, acks := hear(t, x, 4, data(t, 4, 6, at(1, 5), 0, good), 3)
	want := cloned(x)
	want.Post, want.Want, want.Seq = p, nil, 0
	want.Queue, _ = queue.Pop(x.Queue, 7)
	if !same(got, want) || !sameParcels(l, acks) || len(got.Queue.Items) != 1 || !got.Said {
		t.Errorf("got %v, %v", got, l)
	}
	// A second one does nothing.
	again, _, _, _ := hear(t, got, 4, data(t, 4, 6, at(1, 5), 1, good), 3)
	if len(again.Queue.Items) != 1 || again.Seq != 0 || len(again.Want) != 0 {
		t.Errorf("again: got %v", again)
	}
	// The first letter of the queue is another one now: it stays, and nothing is waited for.
	other := cloned(x)
	other.Seq = 8
	got, _, _, _ = hear(t, other, 4, data(t, 4, 6, at(1, 5), 0, good), 3)
	if len(got.Queue.Items) != 2 || got.Seq != 0 || len(got.Want) != 0 {
		t.Errorf("another number: got %v", got)
	}
	// What is waited for may be as short as can be.
	short := cloned(x)
	short.Want = []byte{5}
	got, _, _, _ = hear(t, short, 4, data(t, 4, 6, at(1, 5), 0, body(t, api.Note{Kind: api.ReceiptN, Parts: [][]byte{{5}}})), 3)
	if len(got.Queue.Items) != 1 || got.Seq != 0 || len(got.Want) != 0 {
		t.Errorf("one byte: got %v", got)
	}
	nothing := func(name string, x api.Client, from int, b []byte) {
		t.Helper()
		got, l, p, acks := hear(t, x, from, data(t, from, 6, at(1, 5), 0, b), 3)
		want := cloned(x)
		want.Post = p
		if !same(got, want) || !sameParcels(l, acks) {
			t.Errorf("%s: got %v, %v", name, got, l)
		}
	}
	for _, from := range []int{0, 1, 2, 3, 5, 7} {
		nothing("from another one", x, from, good)
	}
	for _, part := range [][]byte{nil, make([]byte, 32), bytes.Repeat([]byte{5}, 31), bytes.Repeat([]byte{5}, 33)} {
		nothing("another part", x, 4, body(t, api.Note{Kind: api.ReceiptN, Parts: [][]byte{part}}))
	}
	none := cloned(x)
	none.Want = nil
	nothing("nothing is waited for", none, 4, body(t, api.Note{Kind: api.ReceiptN, Parts: [][]byte{nil}}))
	nothing("no receipt", x, 4, body(t, api.Note{Kind: api.SubmitN, Parts: [][]byte{bytes.Repeat([]byte{5}, 32)}}))
}

// Several bodies that come at once are heard in order.
func TestBodies(t *testing.T) {
	x := made(t, 1, "hi")
	s := api.Stamp{Epoch: 1, Round: 5, Chain: []int{4}}
	x.Post = post.Go(x.Post, s)
	announce := body(t, api.Note{Kind: api.AnnounceN})
	b1 := data(t, 0, 6, s, 1, announce)
	b2 := data(t, 0, 6, s, 2, announce)
	b0 := data(t, 0, 6, s, 0, []byte("no note"))
	for _, b := range [][]byte{b1, b2} {
		var l []api.Parcel
		x, l, _, _ = hear(t, x, 0, b, 1)
		if x.Said || len(l) != 1 {
			t.Fatalf("got %v, %v", x, l)
		}
	}
	x, l, _, acks := hear(t, x, 0, b0, 1)
	if !x.Said || len(l) != 2 || !sameParcels(l[:1], acks) || l[1].To != 4 || !l[1].First {
		t.Errorf("got %v, %v", x, l)
	}
}

// An acknowledgement makes room for what waits.
func TestHearAck(t *testing.T) {
	c := cfg()
	c.Window = 1
	x := made(t, 1, "hi")
	x.Post = post.Go(x.Post, at(1, 5))
	x.Post, _, _ = post.Send(c, x.Post, 4, []byte("a"), 1)
	x.Post, _, _ = post.Send(c, x.Post, 4, []byte("b"), 1)
	got, l, e := client.Hear(c, x, 4, ack(t, 4, 6, at(1, 5), 1), 9)
	if e != api.OK || len(l) != 1 || !l[0].First || l[0].To != 4 || len(got.Post.Peers[0].Out.Wait) != 0 {
		t.Errorf("got %v, %v, %d", got, l, e)
	}
}

func TestTick(t *testing.T) {
	x := made(t, 1, "hi")
	x, _, _, _ = hear(t, x, 0, data(t, 0, 6, at(1, 5), 0, body(t, api.Note{Kind: api.AnnounceN})), 3)
	for now := 3; now < 10; now++ {
		got, l := client.Tick(cfg(), x, now)
		p, parcels := post.Again(cfg(), x.Post, now)
		want := cloned(x)
		want.Post = p
		if !same(got, want) || !sameParcels(l, parcels) || (len(l) > 0) != (now >= 8) {
			t.Errorf("%d: got %v, %v", now, got, l)
		}
	}
}

// Of whatever configurations, and clients, the calls end.
func TestEnds(t *testing.T) {
	b := data(t, 0, 6, at(1, 5), 0, body(t, api.Note{Kind: api.AnnounceN}))
	for _, c := range []api.Cfg{{}, {Chain: maxInt, Standby: maxInt, Clients: maxInt, Seed: []byte("client")}, {Chain: minInt, Clients: maxInt, Window: minInt}, {Chain: 1 << 40, Clients: 1 << 40, Window: maxInt}} {
		for _, n := range []int{minInt, -1, 0, 1, maxInt} {
			client.New(c, n)
			x := made(t, 1, "hi")
			x.Who, x.Post.Node = n, n
			client.Say(c, x, n, nil)
			client.Onion(c, x, at(1, 1))
			client.Hear(c, x, 0, b, n)
			client.Hear(c, made(t, 1), 0, b, n)
			client.Tick(c, x, n)
		}
	}
}

// P18.4: in each stamp that is announced a client sends one onion for the first time, always as long; what it has to say changes neither when, nor to whom, nor how long.
func TestFollows(t *testing.T) {
	type sight struct{ now, to, long int }
	for seed := range int64(20) {
		var seen [3][]sight
		for who := range 3 { // three that have other things to say, and see the same
			r := rand.New(rand.NewSource(seed))
			x := made(t, 1)
			onions := map[uint64]int{}
			for now := range 60 {
				if who > 0 && now%7 == who {
					x, _ = client.Say(cfg(), x, who, bytes.Repeat([]byte{9}, now%60))
				}
				round := uint64(1 + now/10)
				n := api.Note{Kind: api.AnnounceN}
				from := 0
				if r.Intn(3) == 0 {
					n, from = api.Note{Kind: api.ReceiptN, Parts: [][]byte{make([]byte, 32)}}, 4
					if who > 0 && len(x.Want) > 0 {
						n.Parts[0] = x.Want
					}
				}
				next, l, e := client.Hear(cfg(), x, from, data(t, from, 6, at(1, round), r.Intn(3), body(t, n)), now)
				if e != api.OK {
					t.Fatalf("%d: got %d", now, e)
				}
				x = next
				if now%4 == 0 {
					var more []api.Parcel
					x, more = client.Tick(cfg(), x, now)
					l = append(l, more...)
				}
				for _, p := range l {
					seen[who] = append(seen[who], sight{now, p.To, len(p.Bytes)})
					if p.First {
						onions[round]++
					}
				}
			}
			for round, many := range onions {
				if many != 1 {
					t.Fatalf("%d onions in round %d", many, round)
				}
			}
			if len(onions) == 0 {
				t.Fatal("no onions")
			}
		}
		if !slices.Equal(seen[0], seen[1]) || !slices.Equal(seen[0], seen[2]) {
			t.Fatalf("%d: what is said can be told", seed)
		}
	}
}
