package coord_test

import (
	"bytes"
	"math/rand"
	"reflect"
	"slices"
	"testing"

	"shallot/api"
	"shallot/coord"
	"shallot/frame"
	"shallot/key"
	"shallot/note"
	"shallot/post"
	"shallot/stamp"
)

const (
	maxInt = 1<<63 - 1
	minInt = -1 << 63
	most   = api.MaxNumber
)

// The servers are the nodes 1 to 5, the clients 6 to 8.
func cfg() api.Cfg {
	return api.Cfg{Seed: []byte("coord"), Chain: 3, Standby: 2, Clients: 3, Queue: 5, Close: 10, Long: 50, Again: 1000, Window: 16, Round: 7, Seq: 1}
}

func body(t *testing.T, n api.Note) []byte {
	t.Helper()
	b, e := note.Put(n)
	if e != api.OK {
		t.Fatalf("%v: got %d", n, e)
	}
	return b
}

func data(t *testing.T, from int, s api.Stamp, seq int, b []byte) []byte {
	t.Helper()
	out, e := frame.Put(key.Pair(cfg(), from, 0), api.Frame{From: from, Stamp: s, Kind: api.DataF, Seq: seq, Body: b})
	if e != api.OK {
		t.Fatalf("got %d", e)
	}
	return out
}

func items(l []api.Item) []api.Item {
	l = slices.Clone(l)
	for i := range l {
		l[i].Body = slices.Clone(l[i].Body)
	}
	return l
}

func cloned(k api.Coord) api.Coord {
	k.Post.Peers = slices.Clone(k.Post.Peers)
	for i := range k.Post.Peers {
		q := &k.Post.Peers[i]
		q.Out.Sent, q.In.Held, q.Out.Wait = items(q.Out.Sent), items(q.In.Held), slices.Clone(q.Out.Wait)
	}
	k.Post.Stamp.Chain = slices.Clone(k.Post.Stamp.Chain)
	k.Standby, k.On, k.Back = slices.Clone(k.Standby), slices.Clone(k.On), slices.Clone(k.Back)
	return k
}

func sameItems(a, b []api.Item) bool {
	return slices.EqualFunc(a, b, func(x, y api.Item) bool { return x.Seq == y.Seq && x.At == y.At && bytes.Equal(x.Body, y.Body) })
}

func samePost(a, b api.Post) bool {
	return a.Node == b.Node && stamp.Same(a.Stamp, b.Stamp) && slices.EqualFunc(a.Peers, b.Peers, func(x, y api.Peer) bool {
		return x.Node == y.Node && x.Out.Next == y.Out.Next && sameItems(x.Out.Sent, y.Out.Sent) &&
			slices.EqualFunc(x.Out.Wait, y.Out.Wait, bytes.Equal) && x.In.Expect == y.In.Expect && sameItems(x.In.Held, y.In.Held)
	})
}

func same(a, b api.Coord) bool {
	return samePost(a.Post, b.Post) && slices.Equal(a.Standby, b.Standby) && a.Start == b.Start && a.Closed == b.Closed &&
		slices.Equal(a.On, b.On) && slices.Equal(a.Back, b.Back) && a.NoChain == b.NoChain && a.Halted == b.Halted
}

func sameParcels(a, b []api.Parcel) bool {
	return slices.EqualFunc(a, b, func(x, y api.Parcel) bool {
		return x.To == y.To && x.First == y.First && bytes.Equal(x.Bytes, y.Bytes)
	})
}

// ticked lets time go by, which must change nothing of what is handed in.
func ticked(t *testing.T, c api.Cfg, k api.Coord, now int) (api.Coord, []api.Parcel) {
	t.Helper()
	old := cloned(k)
	got, l := coord.Tick(c, k, now)
	if !same(k, old) {
		t.Error("what was handed in is changed")
	}
	return got, l
}

// begun works out what a coordinator comes to that begins a round.
func begun(t *testing.T, k api.Coord, s api.Stamp, now int) (api.Coord, []api.Parcel) {
	t.Helper()
	k = cloned(k)
	k.Post = api.Post{Stamp: s}
	k.Start, k.Closed = now, false
	k.On, k.Back = make([]bool, len(s.Chain)), make([]bool, len(s.Chain))
	var l []api.Parcel
	for node := 6; node <= 8; node++ {
		p, more, e := post.Send(cfg(), k.Post, node, body(t, api.Note{Kind: api.AnnounceN}), now)
		if e != api.OK {
			t.Fatalf("got %d", e)
		}
		k.Post = p
		l = append(l, more...)
	}
	return k, l
}

// in tells a coordinator in a round that began at 100, of which all was told.
func in() api.Coord {
	k := coord.New(cfg())
	k.Post = post.Go(k.Post, api.Stamp{Epoch: 1, Round: 9, Chain: []int{1, 2, 3}})
	k.Start, k.On, k.Back = 100, make([]bool, 3), make([]bool, 3)
	return k
}

func TestNew(t *testing.T) {
	k := coord.New(cfg())
	if !same(k, api.Coord{Standby: []int{4, 5}}) {
		t.Errorf("got %v", k)
	}
	c := cfg()
	for _, x := range [][2]int{{1, 0}, {8, 8}, {1, 8}, {8, 0}} {
		c.Chain, c.Standby = x[0], x[1]
		var want []int
		for n := range x[1] {
			want = append(want, x[0]+1+n)
		}
		if k := coord.New(c); !same(k, api.Coord{Standby: want}) {
			t.Errorf("%v: got %v", x, k)
		}
	}
}

func flags(s string) []bool {
	var out []bool
	for _, c := range s {
		out = append(out, c == '1')
	}
	return out
}

func TestSuspect(t *testing.T) {
	for _, x := range []struct {
		on, back string
		want     int
	}{
		{"10", "00", 1}, {"00", "00", 0}, {"01", "11", 0}, {"110", "111", 2}, {"100", "", 1}, {"0", "1111", 0},
		{"11", "00", 1}, {"11", "01", 0}, {"11", "10", 1}, {"111", "011", 0}, {"111", "101", 1}, {"111", "001", 1}, {"", "0000", 3}, {"1", "0111", 0}, {"1", "0001", 2},
		{"11", "11", -1}, {"", "", -1}, {"1", "", -1}, {"", "1", -1}, {"", "111", -1},
	} {
		on, back := flags(x.on), flags(x.back)
		if got := coord.Suspect(on, back); got != x.want || !slices.Equal(on, flags(x.on)) || !slices.Equal(back, flags(x.back)) {
			t.Errorf("%s, %s: got %d", x.on, x.back, got)
		}
	}
}

func TestHearWrong(t *testing.T) {
	s := in().Post.Stamp
	good := data(t, 2, s, 0, nil)
	newer := api.Stamp{Epoch: 1, Round: 10, Chain: []int{1, 2, 3}}
	ack, _ := frame.Put(key.Pair(cfg(), 2, 0), api.Frame{From: 2, Stamp: newer, Kind: api.AckF})
	for i, y := range []struct {
		from int
		b    []byte
		want api.Errno
	}{
		{-1, good, api.ErrArg}, {9, good, api.ErrArg}, {0, good, api.ErrArg}, {2, nil, api.ErrForm}, {2, good[1:], api.ErrForm}, {1, good, api.ErrTag},
		{2, data(t, 2, api.Stamp{Epoch: 1, Round: 8, Chain: s.Chain}, 0, nil), api.ErrNone},
		{2, data(t, 2, api.Stamp{Epoch: 1, Round: 9, Chain: []int{1, 2}}, 0, nil), api.ErrNone},
		{2, data(t, 2, newer, 0, body(t, api.Note{Kind: api.ReportN, Hop: 1})), api.ErrNone},
		{2, data(t, 2, api.Stamp{Epoch: 2, Round: 0, Chain: s.Chain}, 0, nil), api.ErrNone},
		{2, ack, api.ErrNone},
	} {
		k := in()
		got, l, e := coord.Hear(cfg(), k, y.from, y.b, 3)
		if e != y.want || !reflect.DeepEqual(got, api.Coord{}) || len(l) != 0 || !same(k, in()) {
			t.Errorf("%d: got %v, %v, %d", i, got, l, e)
		}
	}
	if got, _, e := coord.Hear(cfg(), coord.New(cfg()), 2, good, 3); e != api.ErrNone || !reflect.DeepEqual(got, api.Coord{}) {
		t.Errorf("new: got %v, %d", got, e)
	}
}

func TestHear(t *testing.T) {
	s := in().Post.Stamp
	for i, x := range []struct {
		from   int
		n      api.Note
		on     string
		back   string
		change func(*api.Coord)
	}{
		{1, api.Note{Kind: api.ReportN}, "100", "000", nil},
		{2, api.Note{Kind: api.ReportN, Hop: 1}, "010", "000", nil},
		{3, api.Note{Kind: api.ReportN, Hop: 2, Back: true}, "000", "001", nil},
		{1, api.Note{Kind: api.ReportN, Back: true}, "000", "100", nil},
		{1, api.Note{Kind: api.ReportN, Hop: 1}, "000", "000", nil},
		{3, api.Note{Kind: api.ReportN, Hop: 3}, "000", "000", nil},
		{4, api.Note{Kind: api.ReportN, Hop: 3}, "000", "000", nil},
		{4, api.Note{Kind: api.ReportN, Hop: 0}, "000", "000", nil},
		{6, api.Note{Kind: api.ReportN, Hop: 0, Back: true}, "000", "000", nil},
		{1, api.Note{Kind: api.CloseN}, "000", "000", nil},
		{1, api.Note{Kind: api.BatchN}, "000", "000", nil},
		{1, api.Note{Kind: api.BackN}, "000", "000", nil},
		{2, api.Note{Kind: api.ReportN, Hop: 1, Back: true}, "000", "010", func(k *api.Coord) { k.Halted = true }},
		{2, api.Note{Kind: api.ReportN, Hop: 1}, "010", "000", func(k *api.Coord) { k.NoChain, k.Closed = true, true }},
		{3, api.Note{Kind: api.ReportN, Hop: 2}, "00", "000", func(k *api.Coord) { k.On = k.On[:2] }},
		{3, api.Note{Kind: api.ReportN, Hop: 2, Back: true}, "000", "", func(k *api.Coord) { k.Back = nil }},
	} {
		k := in()
		if x.change != nil {
			x.change(&k)
		}
		old := cloned(k)
		b := data(t, x.from, s, 0, body(t, x.n))
		got, l, e := coord.Hear(cfg(), k, x.from, b, 3)
		p, _, parcels, _ := post.Take(cfg(), k.Post, x.from, b, 3)
		want := cloned(k)
		want.Post, want.On, want.Back = p, flags(x.on), flags(x.back)
		if e != api.OK || !same(got, want) || !sameParcels(l, parcels) || !same(k, old) {
			t.Errorf("%d: got %v, %v, %d", i, got, l, e)
		}
	}
	// What is no note says nothing; several that come at once are all heard.
	k := in()
	for seq, n := range map[int][]byte{2: body(t, api.Note{Kind: api.ReportN, Hop: 1, Back: true}), 1: body(t, api.Note{Kind: api.ReportN, Hop: 1}), 3: {1}} {
		var e api.Errno
		if k, _, e = coord.Hear(cfg(), k, 2, data(t, 2, s, seq, n), 3); e != api.OK || slices.Contains(k.On, true) {
			t.Fatalf("got %v, %d", k, e)
		}
	}
	k, l, e := coord.Hear(cfg(), k, 2, data(t, 2, s, 0, []byte("no note")), 3)
	if e != api.OK || len(l) != 1 || !slices.Equal(k.On, flags("010")) || !slices.Equal(k.Back, flags("010")) {
		t.Errorf("got %v, %d", k, e)
	}
	// A chain of two places where one server stands twice goes by the place that is reported.
	k = in()
	k.Post.Stamp.Chain = []int{2, 3, 1}
	got, _, e := coord.Hear(cfg(), k, 1, data(t, 1, k.Post.Stamp, 0, body(t, api.Note{Kind: api.ReportN, Hop: 2})), 3)
	if e != api.OK || !slices.Equal(got.On, flags("001")) {
		t.Errorf("got %v, %d", got, e)
	}
}

func TestFirstRound(t *testing.T) {
	k := coord.New(cfg())
	got, l := ticked(t, cfg(), k, 5)
	want, parcels := begun(t, k, api.Stamp{Epoch: 1, Round: 7, Chain: []int{1, 2, 3}}, 5)
	if !same(got, want) || !sameParcels(l, parcels) || len(l) != 3 || l[0].To != 6 || l[2].To != 8 {
		t.Errorf("got %v, %v", got, l)
	}
	// The first round's number may be the end.
	c := cfg()
	c.Round = most
	got, l = ticked(t, c, k, 5)
	want = cloned(k)
	want.Halted = true
	if !same(got, want) || len(l) != 0 {
		t.Errorf("got %v, %v", got, l)
	}
	// A stamp without a chain, but newer than the first one.
	k.Post.Stamp = api.Stamp{Epoch: 1, Round: 7}
	got, l = ticked(t, cfg(), k, 5)
	want = cloned(k)
	want.Halted = true
	if !same(got, want) || len(l) != 0 {
		t.Errorf("got %v, %v", got, l)
	}
	k.Post.Stamp = api.Stamp{Epoch: 1, Round: 6}
	got, l = ticked(t, cfg(), k, 5)
	want, parcels = begun(t, k, api.Stamp{Epoch: 1, Round: 7, Chain: []int{1, 2, 3}}, 5)
	if !same(got, want) || !sameParcels(l, parcels) {
		t.Errorf("got %v, %v", got, l)
	}
}

func TestClose(t *testing.T) {
	k := in()
	for _, now := range []int{100, 105, 109, 99, 0, 50} {
		if got, l := ticked(t, cfg(), k, now); !same(got, k) || len(l) != 0 {
			t.Errorf("%d: got %v, %v", now, got, l)
		}
	}
	for _, now := range []int{110, 111, 149} {
		got, l := ticked(t, cfg(), k, now)
		want := cloned(k)
		var parcels []api.Parcel
		want.Closed = true
		want.Post, parcels, _ = post.Send(cfg(), k.Post, 1, body(t, api.Note{Kind: api.CloseN}), now)
		if !same(got, want) || !sameParcels(l, parcels) || len(l) != 1 {
			t.Errorf("%d: got %v, %v", now, got, l)
		}
		if again, l := ticked(t, cfg(), got, now+0); !same(again, got) || len(l) != 0 {
			t.Errorf("%d, again: got %v, %v", now, again, l)
		}
	}
	// A chain whose first server is no node: it is closed, and nothing is sent.
	k.Post.Stamp.Chain = []int{16, 1}
	got, l := ticked(t, cfg(), k, 110)
	want := cloned(k)
	want.Closed = true
	if !same(got, want) || len(l) != 0 {
		t.Errorf("got %v, %v", got, l)
	}
}

// end checks what becomes of a round at its end.
func end(t *testing.T, name string, k api.Coord, s api.Stamp, standby []int, noChain bool) {
	t.Helper()
	for _, now := range []int{150, 151, 9999} {
		got, l := ticked(t, cfg(), k, now)
		ahead := cloned(k)
		ahead.Standby, ahead.NoChain = standby, noChain
		want, parcels := begun(t, ahead, s, now)
		if !same(got, want) || !sameParcels(l, parcels) || len(l) != 3 {
			t.Errorf("%s, %d: got %v, %v", name, now, got, l)
		}
	}
}

func TestEnd(t *testing.T) {
	next := func(epoch uint64, chain ...int) api.Stamp { return api.Stamp{Epoch: epoch, Round: 10, Chain: chain} }
	for _, x := range []struct {
		on, back string
		standby  []int
		want     api.Stamp
		left     []int
		noChain  bool
	}{
		{"111", "111", []int{4, 5}, next(1, 1, 2, 3), []int{4, 5}, false},
		{"000", "100", []int{4, 5}, next(1, 1, 2, 3), []int{4, 5}, false},
		{"111", "111", nil, next(1, 1, 2, 3), nil, false},
		{"000", "000", []int{4, 5}, next(2, 4, 2, 3), []int{5}, false},
		{"100", "000", []int{5}, next(2, 1, 5, 3), nil, false},
		{"110", "000", []int{4, 5}, next(2, 1, 2, 4), []int{5}, false},
		{"111", "000", []int{4, 5}, next(2, 1, 2, 4), []int{5}, false},
		{"111", "001", []int{4, 5}, next(2, 1, 4, 3), []int{5}, false},
		{"111", "011", []int{4, 5}, next(2, 4, 2, 3), []int{5}, false},
		{"000", "000", nil, next(1, 1, 2, 3), nil, true},
		{"111", "011", nil, next(1, 1, 2, 3), nil, true},
		{"", "", []int{4, 5}, next(1, 1, 2, 3), []int{4, 5}, true},
		{"1111", "01110", []int{4, 5}, next(1, 1, 2, 3), []int{4, 5}, true},
		{"1110", "0111", []int{4, 5}, next(1, 1, 2, 3), []int{4, 5}, true},
		{"111", "0110", []int{4, 5}, next(1, 1, 2, 3), []int{4, 5}, true},
		{"0", "1", []int{4, 5}, next(1, 1, 2, 3), []int{4, 5}, false},
	} {
		k := in()
		k.On, k.Back, k.Standby, k.Closed = flags(x.on), flags(x.back), x.standby, true
		end(t, x.on+", "+x.back, k, x.want, x.left, x.noChain)
		// NoChain stays, once it is true; that the round was not closed does not matter.
		k.NoChain, k.Closed = true, false
		end(t, x.on+", "+x.back, k, x.want, x.left, true)
	}
	// What stands by is not written into.
	k := in()
	k.Standby = append(make([]int, 0, 4), 4, 5)
	a, _ := ticked(t, cfg(), k, 150)
	a.Post.Stamp.Chain[1] = 77
	if !slices.Equal(k.Standby, []int{4, 5}) || !slices.Equal(k.Post.Stamp.Chain, []int{1, 2, 3}) {
		t.Errorf("got %v", k)
	}
}

// At the end of the numbers all is halted.
func TestHalt(t *testing.T) {
	for _, x := range []struct {
		epoch, round uint64
		on, back     string
		standby      []int
		noChain      bool
	}{
		{1, most - 1, "111", "111", []int{4}, false},
		{1, most - 1, "000", "000", nil, true},
		{1, most, "111", "111", []int{4}, false},
		{1, most, "000", "000", nil, true},
		{1, most - 1, "000", "000", []int{4}, false},
		{most - 1, 5, "000", "000", []int{4}, false},
		{most, 5, "000", "000", []int{4}, false},
		{most, 5, "111", "111", []int{4}, false},
		{most, 5, "000", "000", nil, true},
		{most, most, "111", "111", nil, false},
	} {
		k := in()
		k.Post.Stamp.Epoch, k.Post.Stamp.Round = x.epoch, x.round
		k.On, k.Back, k.Standby = flags(x.on), flags(x.back), x.standby
		got, l := ticked(t, cfg(), k, 150)
		want := cloned(k)
		want.Halted, want.NoChain = true, x.noChain
		if x.back == "000" {
			want.Standby = nil
		}
		if !same(got, want) || len(l) != 0 {
			t.Errorf("%v: got %v, %v", x, got, l)
		}
	}
	// Above the end there is 0: a newer epoch may begin with it.
	k := in()
	k.Post.Stamp.Round = most
	ahead := cloned(k)
	ahead.Standby = []int{5}
	want, parcels := begun(t, ahead, api.Stamp{Epoch: 2, Round: 0, Chain: []int{4, 2, 3}}, 150)
	if got, l := ticked(t, cfg(), k, 150); !same(got, want) || !sameParcels(l, parcels) {
		t.Errorf("got %v, %v", got, l)
	}
	// Who is halted does nothing.
	k = in()
	k.Post, _, _ = post.Send(cfg(), k.Post, 1, []byte("x"), 0)
	k.Halted = true
	for _, now := range []int{0, 110, 150, maxInt} {
		if got, l := ticked(t, cfg(), k, now); !same(got, k) || len(l) != 0 {
			t.Errorf("%d: got %v, %v", now, got, l)
		}
	}
}

// Differences of times go round.
func TestTimes(t *testing.T) {
	k := in()
	k.Start = maxInt - 5
	if got, l := ticked(t, cfg(), k, minInt+3); len(l) != 0 || !same(got, k) {
		t.Errorf("9 behind: got %v, %v", got, l)
	}
	if got, l := ticked(t, cfg(), k, minInt+4); len(l) != 1 || !got.Closed {
		t.Errorf("10 behind: got %v, %v", got, l)
	}
	if got, l := ticked(t, cfg(), k, minInt+44); len(l) != 3 || got.Start != minInt+44 {
		t.Errorf("50 behind: got %v, %v", got, l)
	}
	k.Start = minInt
	if got, l := ticked(t, cfg(), k, maxInt); len(l) != 0 || !same(got, k) {
		t.Errorf("-1 behind: got %v, %v", got, l)
	}
}

// What has been under way too long is sent anew, ahead of what the time asks for.
func TestAgain(t *testing.T) {
	c := cfg()
	c.Again = 10
	k := in()
	k.Post, _, _ = post.Send(c, k.Post, 6, []byte("x"), 100)
	for _, now := range []int{109, 110, 149, 150} {
		got, l := ticked(t, c, k, now)
		p, parcels := post.Again(c, k.Post, now)
		if len(parcels) != min(1, now/110) || !sameParcels(l[:len(parcels)], parcels) || len(l) != len(parcels)+map[int]int{109: 0, 110: 1, 149: 1, 150: 3}[now] {
			t.Errorf("%d: got %v", now, l)
		}
		if now < 150 && !sameItems(got.Post.Peers[len(got.Post.Peers)-1].Out.Sent, p.Peers[0].Out.Sent) {
			t.Errorf("%d: got %v", now, got)
		}
	}
}

// Of whatever configurations, and coordinators, the calls end.
func TestEnds(t *testing.T) {
	for _, c := range []api.Cfg{{}, {Chain: 300, Standby: 300, Clients: 300}, {Chain: minInt, Clients: -1, Window: minInt, Long: minInt}, {Chain: 9, Standby: -1, Clients: 99, Window: maxInt}, {Seed: []byte("coord"), Clients: 1000}} {
		coord.New(c)
		for _, n := range []int{minInt, 0, 100, 150, maxInt} {
			coord.Hear(c, in(), 2, data(t, 2, in().Post.Stamp, 0, nil), n)
			coord.Tick(c, in(), n)
			coord.Tick(c, coord.New(c), n)
			coord.Tick(c, api.Coord{Post: api.Post{Node: n, Stamp: api.Stamp{Chain: []int{n}}}, Back: []bool{false}, Standby: []int{n}}, n)
		}
	}
}

// P20.4: stamps rise, a chain stays as long as its epoch, and another epoch's has one server more that stood by in it, and one less that failed; each round is announced to all clients.
func TestFollows(t *testing.T) {
	for seed := range int64(30) {
		r := rand.New(rand.NewSource(seed))
		k := coord.New(cfg())
		epochs := map[uint64][]int{}
		rounds := 0
		for now := range 900 {
			old := k
			var l []api.Parcel
			k, l = coord.Tick(cfg(), k, now)
			s := k.Post.Stamp
			if order := stamp.Compare(s, old.Post.Stamp); order < 0 || order == 0 && !stamp.Same(s, old.Post.Stamp) {
				t.Fatalf("%d: %v behind %v", seed, s, old.Post.Stamp)
			} else if order > 0 {
				rounds++
				to := map[int]bool{}
				for _, p := range l {
					f, e := frame.Take(key.Pair(cfg(), 0, p.To), p.Bytes)
					n, e2 := note.Take(f.Body)
					to[p.To] = e == api.OK && e2 == api.OK && n.Kind == api.AnnounceN && stamp.Same(f.Stamp, s)
				}
				if !reflect.DeepEqual(to, map[int]bool{6: true, 7: true, 8: true}) {
					t.Fatalf("%d: announced to %v", seed, to)
				}
			}
			if chain, ok := epochs[s.Epoch]; ok && !slices.Equal(chain, s.Chain) {
				t.Fatalf("%d: another chain in the epoch %d", seed, s.Epoch)
			} else if !ok && now > 0 {
				was := old.Post.Stamp.Chain
				place := coord.Suspect(old.On, old.Back)
				for i, n := range s.Chain {
					if (n != was[i]) != (i == place) {
						t.Fatalf("%d: %v behind %v, suspected %d", seed, s.Chain, was, place)
					}
				}
				if s.Chain[place] != old.Standby[0] || len(k.Standby) != len(old.Standby)-1 || slices.Contains(k.Standby, s.Chain[place]) {
					t.Fatalf("%d: %v, with %v behind %v", seed, s.Chain, k.Standby, old.Standby)
				}
			}
			epochs[s.Epoch] = s.Chain
			if hop := r.Intn(3); r.Intn(4) == 0 {
				n := api.Note{Kind: api.ReportN, Hop: hop, Back: r.Intn(2) == 0}
				next, _, e := coord.Hear(cfg(), k, s.Chain[hop], data(t, s.Chain[hop], s, r.Intn(3), body(t, n)), now)
				if e != api.OK {
					t.Fatalf("got %d", e)
				}
				k = next
			}
		}
		if rounds != 18 {
			t.Fatalf("%d: %d rounds", seed, rounds)
		}
	}
}
