package store_test

import (
	"math/rand"
	"reflect"
	"slices"
	"testing"

	"shallot/api"
	"shallot/letter"
	"shallot/store"
)

const (
	maxInt = 1<<63 - 1
	minInt = -1 << 63
)

func from(who, to int, seq uint64, text string) api.Letter {
	return api.Letter{From: who, To: to, Seq: seq, Text: []byte(text)}
}

func cloned(s api.Store) api.Store {
	c := api.Store{Last: slices.Clone(s.Last)}
	for _, box := range s.Boxes {
		var b []api.Letter
		for _, l := range box {
			l.Text = slices.Clone(l.Text)
			b = append(b, l)
		}
		c.Boxes = append(c.Boxes, b)
	}
	return c
}

func same(s, x api.Store) bool {
	return slices.Equal(s.Last, x.Last) && slices.EqualFunc(s.Boxes, x.Boxes, func(a, b []api.Letter) bool {
		return slices.EqualFunc(a, b, letter.Same)
	})
}

func zero(s api.Store) bool { return reflect.DeepEqual(s, api.Store{}) }

func TestNew(t *testing.T) {
	for _, x := range []struct {
		clients int
		seq     uint64
	}{{0, 1}, {-1, 1}, {9, 1}, {maxInt, 1}, {minInt, 1}, {1, 0}, {8, 0}, {0, 0}} {
		if s, e := store.New(x.clients, x.seq); e != api.ErrArg || !zero(s) {
			t.Errorf("%v: got %v, %d", x, s, e)
		}
	}
	for clients := 1; clients <= 8; clients++ {
		for _, seq := range []uint64{1, 2, 1 << 40, api.MaxNumber} {
			s, e := store.New(clients, seq)
			want := api.Store{Boxes: make([][]api.Letter, clients)}
			for range clients {
				want.Last = append(want.Last, seq-1)
			}
			if e != api.OK || !same(s, want) || store.Check(s) != api.OK {
				t.Errorf("%d, %d: got %v, %d", clients, seq, s, e)
			}
		}
	}
}

var good = api.Store{
	Last:  []uint64{0, 5, api.MaxNumber},
	Boxes: [][]api.Letter{nil, {from(0, 1, 9, "a"), from(7, 7, 1, "")}, {from(1, 2, 3, "bcd")}},
}

var wrong = []api.Store{
	{},
	{Last: []uint64{}, Boxes: [][]api.Letter{}},
	{Last: []uint64{1}},
	{Boxes: [][]api.Letter{nil}},
	{Last: []uint64{1, 2}, Boxes: make([][]api.Letter, 1)},
	{Last: []uint64{1, 2}, Boxes: make([][]api.Letter, 3)},
	{Last: make([]uint64, 9), Boxes: make([][]api.Letter, 9)},
	{Last: []uint64{1}, Boxes: [][]api.Letter{{from(0, 0, 0, "")}}},
	{Last: []uint64{1}, Boxes: [][]api.Letter{{from(8, 0, 1, "")}}},
	{Last: []uint64{1}, Boxes: [][]api.Letter{{from(0, -1, 1, "")}}},
	{Last: []uint64{1}, Boxes: [][]api.Letter{{{Cover: true}}}},
	{Last: []uint64{1}, Boxes: [][]api.Letter{{from(0, 0, 1, ""), {}}}},
	{Last: []uint64{1, 1}, Boxes: [][]api.Letter{nil, {from(0, 0, 1, string(make([]byte, 65)))}}},
}

func TestCheck(t *testing.T) {
	if e := store.Check(good); e != api.OK {
		t.Errorf("got %d", e)
	}
	if e := store.Check(api.Store{Last: make([]uint64, 8), Boxes: make([][]api.Letter, 8)}); e != api.OK {
		t.Errorf("eight: got %d", e)
	}
	for i, s := range wrong {
		if e := store.Check(s); e != api.ErrArg {
			t.Errorf("wrong %d: got %d", i, e)
		}
		if x, code, e := store.Put(s, from(0, 0, 2, "a")); e != api.ErrArg || code != 0 || !zero(x) {
			t.Errorf("wrong %d: got %v, %d, %d", i, x, code, e)
		}
		for _, client := range []int{0, 1, -1, 9} {
			if x, l, e := store.Pop(s, client); e != api.ErrArg || !zero(x) || !reflect.DeepEqual(l, api.Letter{}) {
				t.Errorf("wrong %d: got %v, %v, %d", i, x, l, e)
			}
		}
	}
}

func TestPut(t *testing.T) {
	long := string(make([]byte, 65))
	for i, x := range []struct {
		l    api.Letter
		code uint8
		in   bool
	}{
		{from(0, 1, 1, "hi"), 1, true},
		{from(0, 0, 1, ""), 1, true},
		{from(1, 2, 6, "x"), 1, true},
		{from(0, 1, 2, "hi"), 0, false},
		{from(0, 1, api.MaxNumber, "hi"), 0, false},
		{from(1, 0, 5, "again"), 1, false},
		{from(1, 0, 1, "never was"), 1, false},
		{from(1, 0, 7, "x"), 0, false},
		{from(2, 0, api.MaxNumber, "x"), 1, false},
		{from(2, 0, 1, "x"), 1, false},
		{from(2, 0, 0, "x"), 0, false},
		{from(0, 1, 0, "x"), 0, false},
		{from(3, 0, 1, "x"), 0, false},
		{from(1, 3, 6, "x"), 0, false},
		{from(1, 3, 5, "x"), 0, false},
		{from(8, 0, 1, "x"), 0, false},
		{from(-1, 0, 1, "x"), 0, false},
		{from(0, -1, 1, "x"), 0, false},
		{from(0, maxInt, 1, "x"), 0, false},
		{from(0, 1, 1, long), 0, false},
		{from(1, 1, 5, long), 0, false},
		{api.Letter{Cover: true}, 0, false},
		{api.Letter{Cover: true, Seq: 1}, 0, false},
		{api.Letter{}, 0, false},
	} {
		s := cloned(good)
		got, code, e := store.Put(s, x.l)
		want := cloned(good)
		if x.in {
			want.Boxes[x.l.To] = append(want.Boxes[x.l.To], x.l)
			want.Last[x.l.From]++
		}
		if e != api.OK || code != x.code || !same(got, want) {
			t.Errorf("%d: got %v, %d, %d", i, got, code, e)
		}
		if !same(s, good) {
			t.Errorf("%d: what was handed in is changed", i)
		}
	}
	// Only Check's error is one: a code is told with a store that is as it was.
	near := api.Store{Last: []uint64{api.MaxNumber - 1}, Boxes: make([][]api.Letter, 1)}
	got, code, e := store.Put(near, from(0, 0, api.MaxNumber, "last"))
	if e != api.OK || code != 1 || got.Last[0] != api.MaxNumber || len(got.Boxes[0]) != 1 {
		t.Errorf("got %v, %d, %d", got, code, e)
	}
}

// Two stores that come of one share nothing in which one is changed.
func TestPutShares(t *testing.T) {
	s, _ := store.New(2, 1)
	s.Boxes[1] = make([]api.Letter, 0, 9)
	s, _, _ = store.Put(s, from(0, 1, 1, "first"))
	l := from(0, 1, 2, "second")
	a, _, _ := store.Put(s, l)
	l.Text[0] = 'x'
	b, _, _ := store.Put(s, from(0, 1, 2, "other"))
	if string(a.Boxes[1][1].Text) != "second" || string(b.Boxes[1][1].Text) != "other" || len(s.Boxes[1]) != 1 || s.Last[0] != 1 {
		t.Errorf("got %v, %v, %v", a, b, s)
	}
}

func TestPop(t *testing.T) {
	for _, client := range []int{-1, 3, 8, maxInt, minInt} {
		if s, l, e := store.Pop(good, client); e != api.ErrArg || !zero(s) || !reflect.DeepEqual(l, api.Letter{}) {
			t.Errorf("%d: got %v, %v, %d", client, s, l, e)
		}
	}
	if s, l, e := store.Pop(good, 0); e != api.ErrNone || !zero(s) || !reflect.DeepEqual(l, api.Letter{}) {
		t.Errorf("none: got %v, %v, %d", s, l, e)
	}
	in := cloned(good)
	s, l, e := store.Pop(in, 1)
	want := cloned(good)
	want.Boxes[1] = want.Boxes[1][1:]
	if e != api.OK || !letter.Same(l, good.Boxes[1][0]) || !same(s, want) || !same(in, good) {
		t.Errorf("got %v, %v, %d", s, l, e)
	}
	s, l, e = store.Pop(s, 1)
	want.Boxes[1] = nil
	if e != api.OK || !letter.Same(l, good.Boxes[1][1]) || !same(s, want) {
		t.Errorf("got %v, %v, %d", s, l, e)
	}
	if _, _, e = store.Pop(s, 1); e != api.ErrNone {
		t.Errorf("got %d", e)
	}
}

// P13.4: of each sender no letter is put in twice, none out of order, and none that is not handed in.
func TestFollows(t *testing.T) {
	r := rand.New(rand.NewSource(13))
	for range 200 {
		first := uint64(1 + r.Intn(3))
		s, _ := store.New(3, first)
		handed := map[string]bool{}
		var boxes [3][]api.Letter
		for range 60 {
			l := from(r.Intn(4), r.Intn(4), first+uint64(r.Intn(9)), string(rune('a'+r.Intn(26))))
			handed[name(l)] = true
			var e api.Errno
			s, _, e = store.Put(s, l)
			if e != api.OK || store.Check(s) != api.OK {
				t.Fatalf("%v: got %d", l, e)
			}
			if client := r.Intn(3); r.Intn(4) == 0 {
				if next, l, e := store.Pop(s, client); e == api.OK {
					boxes[client] = append(boxes[client], l)
					s = next
				}
			}
		}
		var next [3]uint64
		met := map[string]bool{}
		for client := range 3 {
			var last [3]uint64
			for _, l := range append(boxes[client], s.Boxes[client]...) {
				if !handed[name(l)] || met[name(l)] || l.To != client || l.Seq <= last[l.From] {
					t.Fatalf("%v in the box of %d", l, client)
				}
				met[name(l)], last[l.From] = true, l.Seq
				next[l.From]++
			}
		}
		for who := range 3 {
			if s.Last[who] != first-1+next[who] {
				t.Fatalf("%d: last is %d, %d letters", who, s.Last[who], next[who])
			}
		}
	}
}

func name(l api.Letter) string {
	return string([]byte{byte(l.From), byte(l.To), byte(l.Seq)}) + string(l.Text)
}
