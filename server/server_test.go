package server_test

import (
	"bytes"
	"math/rand"
	"reflect"
	"slices"
	"testing"

	"shallot/api"
	"shallot/batch"
	"shallot/client"
	"shallot/frame"
	"shallot/key"
	"shallot/layer"
	"shallot/letter"
	"shallot/note"
	"shallot/onion"
	"shallot/post"
	"shallot/server"
	"shallot/store"
)

const (
	maxInt = 1<<63 - 1
	minInt = -1 << 63
)

// The servers are the nodes 1 to 4, the clients 5 to 7.
func cfg() api.Cfg {
	return api.Cfg{Seed: []byte("server"), Chain: 3, Standby: 1, Clients: 3, Queue: 5, Close: 10, Long: 50, Again: 5, Window: 16, Round: 1, Seq: 1}
}

func at(epoch, round uint64, chain ...int) api.Stamp {
	return api.Stamp{Epoch: epoch, Round: round, Chain: chain}
}

func stamp() api.Stamp { return at(1, 5, 4, 1, 3) }

func shared() api.Shared {
	s, _ := store.New(3, 1)
	return api.Shared{Draws: append(make([]int, 0, 20), 5, 0, 4, 1, 3, 2, 7), Store: s}
}

// standing tells the server of a node, in a stamp.
func standing(t *testing.T, node int, s api.Stamp) api.Server {
	t.Helper()
	x, e := server.New(cfg(), node)
	if e != api.OK {
		t.Fatalf("%d: got %d", node, e)
	}
	x.Post = post.Go(x.Post, s)
	return x
}

func body(t *testing.T, n api.Note) []byte {
	t.Helper()
	b, e := note.Put(n)
	if e != api.OK {
		t.Fatalf("%v: got %d", n, e)
	}
	return b
}

func data(t *testing.T, from, to int, s api.Stamp, seq int, b []byte) []byte {
	t.Helper()
	out, e := frame.Put(key.Pair(cfg(), from, to), api.Frame{From: from, To: to, Stamp: s, Kind: api.DataF, Seq: seq, Body: b})
	if e != api.OK {
		t.Fatalf("got %d", e)
	}
	return out
}

// onions tells those of the three clients, each with a letter but the last one, and what they wait for.
func onions(t *testing.T, s api.Stamp) (l, wants [][]byte) {
	t.Helper()
	for who := range 3 {
		x, _ := client.New(cfg(), who)
		if who < 2 {
			x, _ = client.Say(cfg(), x, 2, []byte{'a' + byte(who)})
		}
		b, want, e := client.Onion(cfg(), x, s)
		if e != api.OK {
			t.Fatalf("%d: got %d", who, e)
		}
		l, wants = append(l, b), append(wants, want)
	}
	return l, wants
}

func cloned(l [][]byte) [][]byte {
	l = slices.Clone(l)
	for i := range l {
		l[i] = slices.Clone(l[i])
	}
	return l
}

func clonedServer(x api.Server) api.Server {
	x.Post.Peers = slices.Clone(x.Post.Peers)
	for i := range x.Post.Peers {
		q := &x.Post.Peers[i]
		q.Out.Sent, q.In.Held, q.Out.Wait = items(q.Out.Sent), items(q.In.Held), cloned(q.Out.Wait)
	}
	x.Post.Stamp.Chain = slices.Clone(x.Post.Stamp.Chain)
	x.From, x.Onions = slices.Clone(x.From), cloned(x.Onions)
	x.Mix = api.Mix{Out: cloned(x.Mix.Out), From: slices.Clone(x.Mix.From), Keys: cloned(x.Mix.Keys)}
	return x
}

func clonedShared(s api.Shared) api.Shared {
	s.Draws = slices.Clone(s.Draws)
	s.Store.Last = slices.Clone(s.Store.Last)
	s.Store.Boxes = slices.Clone(s.Store.Boxes)
	for i := range s.Store.Boxes {
		s.Store.Boxes[i] = slices.Clone(s.Store.Boxes[i])
	}
	return s
}

func items(l []api.Item) []api.Item {
	l = slices.Clone(l)
	for i := range l {
		l[i].Body = slices.Clone(l[i].Body)
	}
	return l
}

func sameItems(a, b []api.Item) bool {
	return slices.EqualFunc(a, b, func(x, y api.Item) bool { return x.Seq == y.Seq && x.At == y.At && bytes.Equal(x.Body, y.Body) })
}

func samePost(a, b api.Post) bool {
	return a.Node == b.Node && a.Stamp.Epoch == b.Stamp.Epoch && a.Stamp.Round == b.Stamp.Round &&
		slices.Equal(a.Stamp.Chain, b.Stamp.Chain) && slices.EqualFunc(a.Peers, b.Peers, func(x, y api.Peer) bool {
		return x.Node == y.Node && x.Out.Next == y.Out.Next && sameItems(x.Out.Sent, y.Out.Sent) &&
			slices.EqualFunc(x.Out.Wait, y.Out.Wait, bytes.Equal) && x.In.Expect == y.In.Expect && sameItems(x.In.Held, y.In.Held)
	})
}

func sameLists(a, b [][]byte) bool { return slices.EqualFunc(a, b, bytes.Equal) }

func same(a, b api.Server) bool {
	return samePost(a.Post, b.Post) && slices.Equal(a.From, b.From) && sameLists(a.Onions, b.Onions) && a.Closed == b.Closed && a.Backed == b.Backed &&
		sameLists(a.Mix.Out, b.Mix.Out) && slices.Equal(a.Mix.From, b.Mix.From) && sameLists(a.Mix.Keys, b.Mix.Keys)
}

func sameShared(a, b api.Shared) bool {
	return slices.Equal(a.Draws, b.Draws) && slices.Equal(a.Store.Last, b.Store.Last) &&
		slices.EqualFunc(a.Store.Boxes, b.Store.Boxes, func(x, y []api.Letter) bool { return slices.EqualFunc(x, y, letter.Same) })
}

func sameParcels(a, b []api.Parcel) bool {
	return slices.EqualFunc(a, b, func(x, y api.Parcel) bool {
		return x.To == y.To && x.First == y.First && bytes.Equal(x.Bytes, y.Bytes)
	})
}

// heard lets a server hear a note, which must be OK, and change nothing of what it is handed.
func heard(t *testing.T, x api.Server, s api.Shared, from, seq int, b []byte) (api.Server, api.Shared, []api.Parcel) {
	t.Helper()
	oldX, oldS := clonedServer(x), clonedShared(s)
	frame := data(t, from, x.Post.Node, x.Post.Stamp, seq, b)
	got, gotS, l, e := server.Hear(cfg(), x, s, from, frame, 3)
	clear(frame)
	if e != api.OK {
		t.Fatalf("got %d", e)
	}
	if !same(x, oldX) || !sameShared(s, oldS) {
		t.Error("what was handed in is changed")
	}
	return got, gotS, l
}

type sending struct {
	to int
	n  api.Note
}

// wants works out what a server comes to that takes a body, and then sends notes.
func wants(t *testing.T, x api.Server, from, seq int, b []byte, sent ...sending) (api.Post, []api.Parcel) {
	t.Helper()
	p, _, l, e := post.Take(cfg(), x.Post, from, data(t, from, x.Post.Node, x.Post.Stamp, seq, b), 3)
	if e != api.OK {
		t.Fatalf("got %d", e)
	}
	for _, y := range sent {
		var more []api.Parcel
		p, more, e = post.Send(cfg(), p, y.to, body(t, y.n), 3)
		if e != api.OK {
			t.Fatalf("got %d", e)
		}
		l = append(l, more...)
	}
	return p, l
}

func TestNew(t *testing.T) {
	for _, n := range []int{minInt, -1, 0, 5, 7, 8, maxInt} {
		if x, e := server.New(cfg(), n); e != api.ErrArg || !reflect.DeepEqual(x, api.Server{}) {
			t.Errorf("%d: got %v, %d", n, x, e)
		}
	}
	for n := 1; n <= 4; n++ {
		if x, e := server.New(cfg(), n); e != api.OK || !same(x, api.Server{Post: api.Post{Node: n}}) {
			t.Errorf("%d: got %v, %d", n, x, e)
		}
	}
}

func TestHop(t *testing.T) {
	for _, x := range []struct {
		node  int
		chain []int
		want  int
	}{
		{4, []int{4, 1, 3}, 0}, {1, []int{4, 1, 3}, 1}, {3, []int{4, 1, 3}, 2}, {2, []int{4, 1, 3}, -1}, {2, nil, -1}, {0, nil, -1},
		{7, []int{1, 7, 7}, 1}, {-5, []int{0, -5}, 1},
	} {
		if got := server.Hop(api.Server{Post: api.Post{Node: x.node, Stamp: at(1, 1, x.chain...)}}); got != x.want {
			t.Errorf("%d in %v: got %d", x.node, x.chain, got)
		}
	}
}

func TestHearWrong(t *testing.T) {
	good := data(t, 5, 4, stamp(), 0, nil)
	for i, y := range []struct {
		from int
		b    []byte
		want api.Errno
	}{
		{-1, good, api.ErrArg}, {8, good, api.ErrArg}, {4, good, api.ErrArg}, {5, nil, api.ErrForm}, {5, good[1:], api.ErrForm}, {1, good, api.ErrTag},
		{0, data(t, 0, 4, at(1, 4, 4, 1, 3), 0, nil), api.ErrNone},
		{0, data(t, 0, 4, at(1, 5, 4, 1), 0, nil), api.ErrNone},
	} {
		x, s, l, e := server.Hear(cfg(), standing(t, 4, stamp()), shared(), y.from, y.b, 3)
		if e != y.want || !reflect.DeepEqual(x, api.Server{}) || !reflect.DeepEqual(s, api.Shared{}) || len(l) != 0 {
			t.Errorf("%d: got %v, %v, %v, %d", i, x, s, l, e)
		}
	}
}

// nothing: what is heard changes nothing but the post.
func nothing(t *testing.T, name string, x api.Server, from int, b []byte) {
	t.Helper()
	got, s, l := heard(t, x, shared(), from, 0, b)
	want := clonedServer(x)
	var parcels []api.Parcel
	want.Post, parcels = wants(t, x, from, 0, b)
	if !same(got, want) || !sameShared(s, shared()) || !sameParcels(l, parcels) {
		t.Errorf("%s from %d: got %v, %v", name, from, got, l)
	}
}

func submit(b []byte) api.Note { return api.Note{Kind: api.SubmitN, Parts: [][]byte{b}} }

func TestSubmit(t *testing.T) {
	x, s := standing(t, 4, stamp()), shared()
	for i, from := range []int{6, 5, 7} {
		b := body(t, submit([]byte{byte(i)}))
		want := clonedServer(x)
		var parcels []api.Parcel
		want.Post, parcels = wants(t, x, from, 0, b)
		want.From = append(want.From, from)
		want.Onions = append(want.Onions, []byte{byte(i)})
		var l []api.Parcel
		x, s, l = heard(t, x, s, from, 0, b)
		if !same(x, want) || !sameShared(s, shared()) || !sameParcels(l, parcels) {
			t.Errorf("%d: got %v, %v", from, x, l)
		}
		again, _, _ := heard(t, x, s, from, 1, body(t, submit([]byte{99})))
		if !slices.Equal(again.From, x.From) || !sameLists(again.Onions, x.Onions) {
			t.Errorf("%d, again: got %v", from, again)
		}
	}
	b := body(t, submit([]byte{1}))
	for _, from := range []int{0, 1, 2, 3} {
		nothing(t, "no client", standing(t, 4, stamp()), from, b)
	}
	for _, node := range []int{1, 3} {
		nothing(t, "at another hop", standing(t, node, stamp()), 5, b)
	}
	nothing(t, "out of the chain", standing(t, 2, stamp()), 5, b)
	closed := standing(t, 4, stamp())
	closed.Closed = true
	nothing(t, "closed", closed, 5, b)
	for _, n := range []api.Note{{Kind: api.AnnounceN}, {Kind: api.ReceiptN, Parts: [][]byte{{1}}}, {Kind: api.ReportN}, {Kind: api.BatchN}, {Kind: api.BackN}, {Kind: api.CloseN}} {
		nothing(t, "another note", standing(t, 4, stamp()), 5, body(t, n))
	}
	nothing(t, "no note", standing(t, 4, stamp()), 5, append(b, 0))
	nothing(t, "no note", standing(t, 4, stamp()), 5, nil)
	// Two that come of one server share nothing.
	x = standing(t, 4, stamp())
	x.From, x.Onions = append(make([]int, 0, 4), 5), append(make([][]byte, 0, 4), []byte{5})
	a, _, _ := heard(t, x, s, 6, 0, body(t, submit([]byte{6})))
	c, _, _ := heard(t, x, s, 7, 0, body(t, submit([]byte{7})))
	if a.From[1] != 6 || c.From[1] != 7 || a.Onions[1][0] != 6 || c.Onions[1][0] != 7 {
		t.Errorf("got %v, %v", a, c)
	}
}

// first tells the chain's first server, with the onions of three clients and what is none.
func first(t *testing.T, s api.Stamp) api.Server {
	l, _ := onions(t, s)
	x := standing(t, s.Chain[0], s)
	x.From, x.Onions = []int{7, 5, 99, 6}, [][]byte{l[2], l[0], []byte("no onion"), l[1]}
	return x
}

func TestClose(t *testing.T) {
	x, s := first(t, stamp()), shared()
	b := body(t, api.Note{Kind: api.CloseN})
	got, gotS, l := heard(t, x, s, 0, 0, b)
	m, used, e := batch.Mix(key.Onion(cfg(), 4), 0, 3, x.Onions, s.Draws)
	if e != api.OK || used != 2 || len(m.Out) != 3 {
		t.Fatalf("got %v, %d, %d", m, used, e)
	}
	want := clonedServer(x)
	var parcels []api.Parcel
	want.Post, parcels = wants(t, x, 0, 0, b, sending{0, api.Note{Kind: api.ReportN}}, sending{1, api.Note{Kind: api.BatchN, Parts: m.Out}})
	want.Closed, want.Mix = true, m
	s.Draws = s.Draws[2:]
	if !same(got, want) || !sameShared(gotS, s) || !sameParcels(l, parcels) || len(l) != 3 {
		t.Errorf("got %v, %v, %v", got, gotS, l)
	}
	nothing(t, "closed", got, 1, body(t, api.Note{Kind: api.CloseN}))
	again, againS, l := heard(t, got, gotS, 0, 1, b)
	if !sameShared(againS, gotS) || len(l) != 1 || !sameLists(again.Mix.Out, m.Out) {
		t.Errorf("again: got %v, %v", again, l)
	}
	for _, from := range []int{1, 2, 3, 5, 7} {
		nothing(t, "from another one", first(t, stamp()), from, b)
	}
	for _, node := range []int{1, 2, 3} {
		nothing(t, "at another hop", standing(t, node, stamp()), 0, b)
	}
	// A batch without onions is closed, too.
	x = standing(t, 4, stamp())
	got, gotS, l = heard(t, x, shared(), 0, 0, b)
	want = clonedServer(x)
	want.Post, parcels = wants(t, x, 0, 0, b, sending{0, api.Note{Kind: api.ReportN}}, sending{1, api.Note{Kind: api.BatchN}})
	want.Closed = true
	if !same(got, want) || !sameShared(gotS, shared()) || !sameParcels(l, parcels) {
		t.Errorf("none: got %v, %v", got, l)
	}
}

func TestBatch(t *testing.T) {
	l, _ := onions(t, stamp())
	for i := range l {
		l[i], _, _ = onion.Peel(key.Onion(cfg(), 4), 0, 3, l[i])
	}
	l = append(l, nil)
	x, s := standing(t, 1, stamp()), shared()
	b := body(t, api.Note{Kind: api.BatchN, Parts: l})
	got, gotS, parcels := heard(t, x, s, 4, 0, b)
	m, used, _ := batch.Mix(key.Onion(cfg(), 1), 1, 3, l, s.Draws)
	want := clonedServer(x)
	var wanted []api.Parcel
	want.Post, wanted = wants(t, x, 4, 0, b, sending{0, api.Note{Kind: api.ReportN, Hop: 1}}, sending{3, api.Note{Kind: api.BatchN, Parts: m.Out}})
	want.Closed, want.Mix, want.Onions = true, m, l
	s.Draws = s.Draws[used:]
	if !same(got, want) || !sameShared(gotS, s) || !sameParcels(parcels, wanted) || len(m.Out) != 3 {
		t.Errorf("got %v, %v, %v", got, gotS, parcels)
	}
	again, againS, more := heard(t, got, gotS, 4, 1, body(t, api.Note{Kind: api.BatchN}))
	if !sameShared(againS, gotS) || len(more) != 1 || len(again.Onions) != 4 {
		t.Errorf("again: got %v, %v", again, more)
	}
	for _, from := range []int{0, 2, 3, 5, 6} {
		nothing(t, "from another one", standing(t, 1, stamp()), from, b)
	}
	for _, node := range []int{2, 3} {
		nothing(t, "at another hop", standing(t, node, stamp()), 4, b)
	}
	for _, from := range []int{1, 3} {
		nothing(t, "the first one", standing(t, 4, stamp()), from, b)
	}
}

// Draws are used up as far as they go.
func TestFewDraws(t *testing.T) {
	for _, draws := range [][]int{nil, {1}, {1, 2}} {
		s := shared()
		s.Draws = draws
		got, gotS, _ := heard(t, first(t, stamp()), s, 0, 0, body(t, api.Note{Kind: api.CloseN}))
		m, _, _ := batch.Mix(key.Onion(cfg(), 4), 0, 3, got.Onions, draws)
		if len(gotS.Draws) != 0 || !slices.Equal(got.Mix.From, m.From) {
			t.Errorf("%v: got %v, %v", draws, got.Mix.From, gotS.Draws)
		}
	}
}

// lastBatch tells what comes to the last server, and which letters these are (in the order of the batch).
func lastBatch(t *testing.T, letters ...api.Letter) [][]byte {
	t.Helper()
	var out [][]byte
	servers := [][]byte{key.Onion(cfg(), 4), key.Onion(cfg(), 1), key.Onion(cfg(), 3)}
	for i, l := range letters {
		said, e := letter.Put(l)
		if e != api.OK {
			said = bytes.Repeat([]byte{7}, 78)
		}
		nonces, _ := onion.Nonces([]byte{byte(i)}, stamp())
		b, e := onion.Wrap(servers, nonces, said)
		if e != api.OK {
			t.Fatalf("got %d", e)
		}
		for hop := range 2 {
			b, _, _ = onion.Peel(servers[hop], hop, 3, b)
		}
		out = append(out, b)
	}
	return out
}

func TestLast(t *testing.T) {
	letters := []api.Letter{
		{From: 0, To: 2, Seq: 1, Text: []byte("in")},
		{From: 0, To: 2, Seq: 2, Text: []byte("in only behind the first one")},
		{Cover: true},
		{From: 1, To: 0, Seq: 2, Text: []byte("ahead of its time")},
		{From: 7, To: 0, Seq: 1, Text: []byte("no client")},
		{},
		{From: 2, To: 2, Seq: 1},
	}
	l := append(lastBatch(t, letters...), []byte("no onion"))
	x, s := standing(t, 3, stamp()), shared()
	b := body(t, api.Note{Kind: api.BatchN, Parts: l})
	got, gotS, parcels := heard(t, x, s, 1, 0, b)
	m, used, _ := batch.Mix(key.Onion(cfg(), 3), 2, 3, l, s.Draws)
	if used != 6 || len(m.Out) != 7 {
		t.Fatalf("got %v, %d", m, used)
	}
	var replies [][]byte
	in := 0
	for i, at := range m.From {
		next, code, e := store.Put(s.Store, letters[at])
		if e != api.OK || at == 5 {
			next, code = s.Store, 0
		}
		s.Store = next
		in += int(code)
		replies = append(replies, layer.Reply(m.Keys[i], code))
	}
	back, _ := batch.Back(m, 8, replies)
	want := clonedServer(x)
	var wanted []api.Parcel
	want.Post, wanted = wants(t, x, 1, 0, b,
		sending{0, api.Note{Kind: api.ReportN, Hop: 2}}, sending{0, api.Note{Kind: api.ReportN, Hop: 2, Back: true}}, sending{1, api.Note{Kind: api.BackN, Parts: back}})
	want.Closed, want.Backed, want.Mix, want.Onions = true, true, m, l
	s.Draws = s.Draws[6:]
	if !same(got, want) || !sameShared(gotS, s) || !sameParcels(parcels, wanted) || in < 2 {
		t.Errorf("got %v, %v, %v", got, gotS, parcels)
	}
	// A store that may not be: all replies are of the code 0, and it stays as it is.
	bad := shared()
	bad.Store.Last = nil
	got, gotS, _ = heard(t, x, bad, 1, 0, b)
	if !got.Backed || len(gotS.Store.Boxes) != 3 || len(gotS.Store.Last) != 0 {
		t.Errorf("got %v, %v", got, gotS)
	}
	for i := range replies {
		replies[i] = layer.Reply(m.Keys[i], 0)
	}
	back, _ = batch.Back(m, 8, replies)
	_, wanted = wants(t, x, 1, 0, b, sending{0, api.Note{Kind: api.ReportN, Hop: 2}}, sending{0, api.Note{Kind: api.ReportN, Hop: 2, Back: true}}, sending{1, api.Note{Kind: api.BackN, Parts: back}})
	_, _, parcels = heard(t, x, bad, 1, 0, b)
	if !sameParcels(parcels, wanted) {
		t.Errorf("got %v", parcels)
	}
}

// A chain of one is the first one and the last one at once.
func TestAlone(t *testing.T) {
	s := at(1, 5, 2)
	l, replies := onions(t, s)
	x := standing(t, 2, s)
	x.From, x.Onions = []int{6, 5}, [][]byte{l[1], l[0], l[2]}
	b := body(t, api.Note{Kind: api.CloseN})
	got, gotS, parcels := heard(t, x, shared(), 0, 0, b)
	if !got.Closed || !got.Backed || !slices.Equal(gotS.Store.Last, []uint64{1, 1, 0}) || len(gotS.Store.Boxes[2]) != 2 {
		t.Errorf("got %v, %v", got, gotS)
	}
	_, wanted := wants(t, x, 0, 0, b,
		sending{0, api.Note{Kind: api.ReportN}}, sending{0, api.Note{Kind: api.ReportN, Back: true}},
		sending{6, api.Note{Kind: api.ReceiptN, Parts: [][]byte{replies[1]}}}, sending{5, api.Note{Kind: api.ReceiptN, Parts: [][]byte{replies[0]}}})
	if !sameParcels(parcels, wanted) {
		t.Errorf("got %v", parcels)
	}
}

// A batch of too many can not be peeled: it is closed, nothing goes on, and nothing comes back.
func TestTooMany(t *testing.T) {
	b := body(t, api.Note{Kind: api.CloseN})
	x := standing(t, 4, stamp())
	x.Onions = make([][]byte, 65)
	got, gotS, parcels := heard(t, x, shared(), 0, 0, b)
	_, wanted := wants(t, x, 0, 0, b, sending{0, api.Note{Kind: api.ReportN}}, sending{1, api.Note{Kind: api.BatchN}})
	if !got.Closed || len(got.Onions) != 65 || !sameShared(gotS, shared()) || !sameParcels(parcels, wanted) {
		t.Errorf("got %v, %v", got, parcels)
	}
	x = standing(t, 2, at(1, 5, 2))
	x.Onions = make([][]byte, 65)
	got, _, parcels = heard(t, x, shared(), 0, 0, b)
	_, wanted = wants(t, x, 0, 0, b, sending{0, api.Note{Kind: api.ReportN}})
	if !got.Closed || got.Backed || !sameParcels(parcels, wanted) {
		t.Errorf("alone: got %v, %v", got, parcels)
	}
}

func TestBack(t *testing.T) {
	replies := [][]byte{bytes.Repeat([]byte{1}, 32), bytes.Repeat([]byte{2}, 32)}
	b := body(t, api.Note{Kind: api.BackN, Parts: replies})
	nought := make([]byte, 32)
	mixed := func(node int) api.Server {
		x := standing(t, node, stamp())
		x.Closed, x.Onions, x.Mix = true, make([][]byte, 3), api.Mix{From: []int{2, 0}, Out: make([][]byte, 2), Keys: make([][]byte, 2)}
		if node == 4 {
			x.From = []int{7, 5, 6}
		}
		return x
	}
	parts := [][]byte{replies[1], nought, replies[0]}
	check := func(name string, x api.Server, from int, sent ...sending) api.Server {
		t.Helper()
		got, s, l := heard(t, x, shared(), from, 0, b)
		want := clonedServer(x)
		var wanted []api.Parcel
		want.Post, wanted = wants(t, x, from, 0, b, sent...)
		want.Backed = true
		if !same(got, want) || !sameShared(s, shared()) || !sameParcels(l, wanted) {
			t.Errorf("%s: got %v, %v", name, got, l)
		}
		return got
	}
	report := func(hop int) sending { return sending{0, api.Note{Kind: api.ReportN, Hop: hop, Back: true}} }
	receipt := func(to, i int) sending {
		return sending{to, api.Note{Kind: api.ReceiptN, Parts: parts[i : i+1]}}
	}
	got := check("the middle", mixed(1), 3, report(1), sending{4, api.Note{Kind: api.BackN, Parts: parts}})
	again, _, l := heard(t, got, shared(), 3, 1, b)
	if len(l) != 1 || !again.Backed {
		t.Errorf("again: got %v, %v", again, l)
	}
	check("the first one", mixed(4), 1, report(0), receipt(7, 0), receipt(5, 1), receipt(6, 2))
	few := mixed(4)
	few.From = []int{7}
	check("few are known", few, 1, report(0), receipt(7, 0))
	many := mixed(4)
	many.From = []int{7, 5, 6, 5}
	check("more than there were", many, 1, report(0), receipt(7, 0), receipt(5, 1), receipt(6, 2))
	odd := mixed(4)
	odd.From = []int{99, 4, 6} // no node, and its own: nothing is sent there
	check("who is none", odd, 1, report(0), receipt(6, 2))

	for _, from := range []int{0, 2, 4, 5} {
		nothing(t, "from another one", mixed(1), from, b)
	}
	for _, from := range []int{1, 4, 0} {
		nothing(t, "the last one", mixed(3), from, b)
	}
	nothing(t, "out of the chain", mixed(2), 1, b)
	open := mixed(1)
	open.Closed = false
	nothing(t, "not closed", open, 3, b)
	for _, parts := range [][][]byte{nil, replies[:1], append(cloned(replies), nought), {replies[0], replies[1][1:]}} {
		nothing(t, "other replies", mixed(1), 3, body(t, api.Note{Kind: api.BackN, Parts: parts}))
	}
	bad := mixed(1)
	bad.Mix.From = []int{2, 3}
	nothing(t, "a mix that may not be", bad, 3, b)
}

// What can not be sent is not: with a window that is full it waits, to a node that is none it is not done.
func TestSendNothing(t *testing.T) {
	s := at(1, 5, 4, 9) // 9 is no node
	x := standing(t, 4, s)
	x.Onions = [][]byte{nil}
	b := body(t, api.Note{Kind: api.CloseN})
	got, _, l := heard(t, x, shared(), 0, 0, b)
	_, wanted := wants(t, x, 0, 0, b, sending{0, api.Note{Kind: api.ReportN}})
	if !got.Closed || !sameParcels(l, wanted) {
		t.Errorf("got %v, %v", got, l)
	}
}

// A stamp that is newer ends all, and may put the server to another place.
func TestNewer(t *testing.T) {
	x := first(t, stamp())
	x.Closed, x.Backed, x.Mix = true, true, api.Mix{From: []int{1}, Out: [][]byte{{1}}, Keys: [][]byte{{1}}}
	b := body(t, submit([]byte("new")))
	for _, s := range []api.Stamp{at(1, 6, 4, 1), at(2, 1, 1, 4), at(2, 1, 1)} {
		got, gotS, l, e := server.Hear(cfg(), x, shared(), 6, data(t, 6, 4, s, 0, b), 3)
		p, _, parcels, _ := post.Take(cfg(), x.Post, 6, data(t, 6, 4, s, 0, b), 3)
		want := api.Server{Post: p}
		if s.Chain[0] == 4 {
			want.From, want.Onions = []int{6}, [][]byte{[]byte("new")}
		}
		if e != api.OK || !same(got, want) || !sameShared(gotS, shared()) || !sameParcels(l, parcels) {
			t.Errorf("%v: got %v, %v, %d", s, got, l, e)
		}
	}
	// A server that is new hears the first stamp so, too.
	x, _ = server.New(cfg(), 4)
	got, _, _, e := server.Hear(cfg(), x, shared(), 6, data(t, 6, 4, stamp(), 0, b), 3)
	if e != api.OK || !slices.Equal(got.From, []int{6}) {
		t.Errorf("got %v, %d", got, e)
	}
}

// Several bodies that come at once are heard in order.
func TestBodies(t *testing.T) {
	x, s := standing(t, 4, at(1, 5, 4)), shared()
	x, s, _ = heard(t, x, s, 6, 2, body(t, submit([]byte("third"))))
	x, s, _ = heard(t, x, s, 6, 1, body(t, submit([]byte("second"))))
	x, s, _ = heard(t, x, s, 6, 0, []byte("no note"))
	if !slices.Equal(x.From, []int{6}) || string(x.Onions[0]) != "second" {
		t.Errorf("got %v", x)
	}
	_ = s
}

func TestTick(t *testing.T) {
	x, _, _ := heard(t, first(t, stamp()), shared(), 0, 0, body(t, api.Note{Kind: api.CloseN}))
	for now := 3; now < 10; now++ {
		old := clonedServer(x)
		got, l := server.Tick(cfg(), x, now)
		p, parcels := post.Again(cfg(), x.Post, now)
		want := clonedServer(x)
		want.Post = p
		if !same(got, want) || !sameParcels(l, parcels) || (len(l) > 0) != (now >= 8) || !same(x, old) {
			t.Errorf("%d: got %v, %v", now, got, l)
		}
	}
}

// Of whatever configurations, and servers, the calls end.
func TestEnds(t *testing.T) {
	for _, c := range []api.Cfg{{}, {Chain: maxInt, Standby: maxInt, Clients: maxInt, Seed: []byte("server")}, {Chain: minInt, Clients: maxInt, Window: minInt}, {Chain: 1 << 40, Clients: 1 << 40, Window: maxInt}} {
		for _, n := range []int{minInt, -1, 0, 1, maxInt} {
			server.New(c, n)
			server.Hop(api.Server{Post: api.Post{Node: n}})
			for _, k := range []int{api.CloseN, api.BatchN, api.BackN} {
				x := first(t, stamp())
				x.From = []int{n, n}
				x.Mix.From = []int{n}
				server.Hear(c, x, api.Shared{}, 0, data(t, 0, 4, stamp(), 0, body(t, api.Note{Kind: k})), n)
				server.Tick(c, x, n)
			}
		}
	}
}

// P19.3: in each stamp a server closes one batch, and hands back one; a letter whose reply is of the code 1 was put into the store.
func TestFollows(t *testing.T) {
	come := 0
	for seed := range int64(30) {
		r := rand.New(rand.NewSource(seed))
		var servers []api.Server
		for node := 1; node <= 4; node++ {
			servers = append(servers, standing(t, node, stamp()))
		}
		s := shared()
		var clients []api.Client
		for who := range 3 {
			x, _ := client.New(cfg(), who)
			if r.Intn(4) > 0 {
				x, _ = client.Say(cfg(), x, r.Intn(3), []byte{byte(who)})
			}
			clients = append(clients, x)
		}
		type packet struct {
			from int
			p    api.Parcel
		}
		var way []packet
		lay := func(from int, l []api.Parcel) {
			for _, p := range l {
				way = append(way, packet{from, p})
			}
		}
		for who := range 3 {
			x, l, e := client.Hear(cfg(), clients[who], 0, data(t, 0, 5+who, stamp(), 0, body(t, api.Note{Kind: api.AnnounceN})), 0)
			if e != api.OK {
				t.Fatalf("got %d", e)
			}
			clients[who] = x
			lay(5+who, l)
		}
		closes, backs := map[int]int{}, map[int]int{}
		for now := range 60 {
			if now == 5 || now == 30 {
				if !servers[3].Closed {
					closes[4]++
				}
				x, gotS, l, _ := server.Hear(cfg(), servers[3], s, 0, data(t, 0, 4, stamp(), now/30, body(t, api.Note{Kind: api.CloseN})), now)
				servers[3], s = x, gotS
				lay(4, l)
			}
			for range len(way) {
				i := r.Intn(len(way))
				p := way[i]
				if r.Intn(3) > 0 {
					way = slices.Delete(way, i, i+1)
				}
				switch to := p.p.To; {
				case to == 0: // the coordinator takes no part here
				case to <= 4:
					old := servers[to-1]
					x, gotS, l, e := server.Hear(cfg(), old, s, p.from, p.p.Bytes, now)
					if e == api.OK {
						servers[to-1], s = x, gotS
						lay(to, l)
						if x.Closed && !old.Closed {
							closes[to]++
						}
						if x.Backed && !old.Backed {
							backs[to]++
						}
						if old.Closed && (!x.Closed || len(x.Onions) != len(old.Onions)) || old.Backed && !x.Backed {
							t.Fatalf("%d: something was closed anew", seed)
						}
					}
				default:
					x, l, e := client.Hear(cfg(), clients[to-5], p.from, p.p.Bytes, now)
					if e == api.OK {
						clients[to-5] = x
						lay(to, l)
					}
				}
			}
		}
		for _, node := range []int{4, 1, 3} {
			if closes[node] != 1 || backs[node] != 1 {
				t.Fatalf("%d: the server %d closed %d, and handed back %d", seed, node, closes[node], backs[node])
			}
		}
		for who, x := range clients {
			if len(x.Queue.Items) == 0 && x.Queue.Next > 1 {
				come++
				if s.Store.Last[who] != 1 {
					t.Fatalf("%d: the letter of %d is not in the store", seed, who)
				}
			}
		}
	}
	if come < 20 {
		t.Errorf("%d letters have come", come)
	}
}
