package link_test

import (
	"bytes"
	"math/rand"
	"slices"
	"testing"

	"shallot/api"
	"shallot/link"
)

const (
	maxInt = 1<<63 - 1
	minInt = -1 << 63
)

func item(seq int, body string, at int) api.Item {
	return api.Item{Seq: seq, Body: []byte(body), At: at}
}

func sameItem(a, b api.Item) bool {
	return a.Seq == b.Seq && a.At == b.At && bytes.Equal(a.Body, b.Body)
}

func sameItems(a, b []api.Item) bool { return slices.EqualFunc(a, b, sameItem) }

func sameOut(a, b api.Out) bool {
	return a.Next == b.Next && sameItems(a.Sent, b.Sent) && slices.EqualFunc(a.Wait, b.Wait, bytes.Equal)
}

func sameIn(a, b api.In) bool { return a.Expect == b.Expect && sameItems(a.Held, b.Held) }

// roomy tells a list with room behind it, into which nobody may write.
func roomy[T any](l ...T) []T { return append(make([]T, 0, len(l)+4), l...) }

func texts(l ...string) [][]byte {
	var out [][]byte
	for _, s := range l {
		out = append(out, []byte(s))
	}
	return out
}

func out() api.Out {
	return api.Out{Next: 7, Sent: roomy(item(4, "four", 10), item(6, "six", 12)), Wait: roomy(texts("a", "b", "c")...)}
}

func TestSend(t *testing.T) {
	for i, x := range []struct {
		o      api.Out
		window int
		want   api.Out
		told   []api.Item
	}{
		{api.Out{}, 1, api.Out{Next: 1, Sent: []api.Item{item(0, "x", 5)}}, []api.Item{item(0, "x", 5)}},
		{api.Out{}, 0, api.Out{Wait: texts("x")}, nil},
		{api.Out{}, -1, api.Out{Wait: texts("x")}, nil},
		{api.Out{}, minInt, api.Out{Wait: texts("x")}, nil},
		{api.Out{Next: maxInt}, maxInt, api.Out{Next: minInt, Sent: []api.Item{item(maxInt, "x", 5)}}, []api.Item{item(maxInt, "x", 5)}},
		{out(), 2, api.Out{Next: 7, Sent: out().Sent, Wait: texts("a", "b", "c", "x")}, nil},
		{out(), 1, api.Out{Next: 7, Sent: out().Sent, Wait: texts("a", "b", "c", "x")}, nil},
		{out(), 3, api.Out{Next: 8, Sent: append(out().Sent, item(7, "x", 5)), Wait: texts("a", "b", "c")}, []api.Item{item(7, "x", 5)}},
	} {
		body := []byte("x")
		old := api.Out{Next: x.o.Next, Sent: slices.Clone(x.o.Sent), Wait: slices.Clone(x.o.Wait)}
		o, told := link.Send(x.o, body, x.window, 5)
		body[0] = 'y'
		if !sameOut(o, x.want) || !sameItems(told, x.told) || !sameOut(x.o, old) {
			t.Errorf("%d: got %v, %v", i, o, told)
		}
		clear(told)
		if !sameOut(o, x.want) {
			t.Errorf("%d: the items that are told are those under way", i)
		}
	}
}

// What comes of one end twice is not shared.
func TestSendTwice(t *testing.T) {
	o := out()
	a, _ := link.Send(o, []byte("first"), 9, 1)
	b, _ := link.Send(o, []byte("other"), 9, 2)
	c, _ := link.Send(o, []byte("first"), 0, 1)
	d, _ := link.Send(o, []byte("other"), 0, 1)
	if string(a.Sent[2].Body) != "first" || string(b.Sent[2].Body) != "other" || string(c.Wait[3]) != "first" || string(d.Wait[3]) != "other" {
		t.Errorf("got %v, %v, %v, %v", a, b, c, d)
	}
}

func TestAck(t *testing.T) {
	for i, x := range []struct {
		n, window int
		want      api.Out
		told      []api.Item
	}{
		{4, 2, out(), nil},
		{minInt, 1, out(), nil},
		{4, 3, api.Out{Next: 8, Sent: []api.Item{item(4, "four", 10), item(6, "six", 12), item(7, "a", 5)}, Wait: texts("b", "c")}, []api.Item{item(7, "a", 5)}},
		{5, 2, api.Out{Next: 8, Sent: []api.Item{item(6, "six", 12), item(7, "a", 5)}, Wait: texts("b", "c")}, []api.Item{item(7, "a", 5)}},
		{6, 3, api.Out{Next: 9, Sent: []api.Item{item(6, "six", 12), item(7, "a", 5), item(8, "b", 5)}, Wait: texts("c")}, []api.Item{item(7, "a", 5), item(8, "b", 5)}},
		{7, 64, api.Out{Next: 10, Sent: []api.Item{item(7, "a", 5), item(8, "b", 5), item(9, "c", 5)}}, []api.Item{item(7, "a", 5), item(8, "b", 5), item(9, "c", 5)}},
		{maxInt, 0, api.Out{Next: 7, Wait: texts("a", "b", "c")}, nil},
		{maxInt, minInt, api.Out{Next: 7, Wait: texts("a", "b", "c")}, nil},
		{5, -3, api.Out{Next: 7, Sent: []api.Item{item(6, "six", 12)}, Wait: texts("a", "b", "c")}, nil},
		{5, maxInt, api.Out{Next: 10, Sent: []api.Item{item(6, "six", 12), item(7, "a", 5), item(8, "b", 5), item(9, "c", 5)}}, []api.Item{item(7, "a", 5), item(8, "b", 5), item(9, "c", 5)}},
	} {
		in := out()
		o, told := link.Ack(in, x.n, x.window, 5)
		if !sameOut(o, x.want) || !sameItems(told, x.told) || !sameOut(in, out()) {
			t.Errorf("%d: got %v, %v", i, o, told)
		}
		clear(told)
		if !sameOut(o, x.want) {
			t.Errorf("%d: the items that are told are those under way", i)
		}
		if rest := in.Sent[:cap(in.Sent)][2:]; !sameItems(rest, make([]api.Item, len(rest))) {
			t.Errorf("%d: the room behind what was handed in is changed", i)
		}
	}
	// Items go by their numbers, in whatever order they stand.
	o, told := link.Ack(api.Out{Next: maxInt, Sent: []api.Item{item(9, "a", 0), item(1, "b", 0), item(5, "c", 0)}, Wait: texts("d", "e")}, 5, 4, 3)
	want := []api.Item{item(9, "a", 0), item(5, "c", 0), item(maxInt, "d", 3), item(minInt, "e", 3)}
	if !sameItems(o.Sent, want) || o.Next != minInt+1 || len(o.Wait) != 0 || !sameItems(told, want[2:]) {
		t.Errorf("got %v, %v", o, told)
	}
}

func TestAgain(t *testing.T) {
	for i, x := range []struct {
		after, now int
		late       []bool
	}{
		{5, 15, []bool{true, false}},
		{5, 14, []bool{false, false}},
		{5, 17, []bool{true, true}},
		{0, 12, []bool{true, true}},
		{0, 11, []bool{true, false}},
		{-1, 11, []bool{true, true}},
		{-2, 9, []bool{true, false}},
		{maxInt, 100, []bool{false, false}},
		{minInt, -100, []bool{true, true}},
		{1, minInt, []bool{true, true}},
		{maxInt, minInt + 11, []bool{false, true}}, // differences go round
	} {
		in := out()
		o, told := link.Again(in, x.after, x.now)
		want := out()
		var late []api.Item
		for j := range want.Sent {
			if x.late[j] {
				want.Sent[j].At = x.now
				late = append(late, want.Sent[j])
			}
		}
		if !sameOut(o, want) || !sameItems(told, late) || !sameOut(in, out()) {
			t.Errorf("%d: got %v, %v", i, o, told)
		}
		clear(told)
		if !sameOut(o, want) {
			t.Errorf("%d: the items that are told are those under way", i)
		}
	}
	if o, told := link.Again(api.Out{Next: 3, Wait: texts("a")}, 0, 5); len(told) != 0 || !sameOut(o, api.Out{Next: 3, Wait: texts("a")}) {
		t.Errorf("none: got %v, %v", o, told)
	}
}

func in() api.In { return api.In{Expect: 3, Held: roomy(item(5, "five", 0), item(4, "four", 0))} }

func TestTake(t *testing.T) {
	for i, x := range []struct {
		seq, window int
		want        api.In
		bodies      [][]byte
	}{
		{3, 4, api.In{Expect: 6}, texts("x", "four", "five")},
		{3, 1, api.In{Expect: 6}, texts("x", "four", "five")},
		{3, 0, in(), nil},
		{3, -1, in(), nil},
		{2, 4, in(), nil},
		{minInt, 4, in(), nil},
		{4, 4, in(), nil},
		{5, 4, in(), nil},
		{6, 4, api.In{Expect: 3, Held: append(in().Held, item(6, "x", 0))}, nil},
		{7, 4, in(), nil},
		{7, 5, api.In{Expect: 3, Held: append(in().Held, item(7, "x", 0))}, nil},
		{6, 3, in(), nil},
		{maxInt, maxInt, in(), nil},
		{6, maxInt, in(), nil},
		{maxInt, maxInt - 3, in(), nil},
		{maxInt - 1, maxInt - 3, api.In{Expect: 3, Held: append(in().Held, item(maxInt-1, "x", 0))}, nil},
	} {
		body := []byte("x")
		old := in()
		got, bodies, n := link.Take(old, x.seq, body, x.window)
		body[0] = 'y'
		if !slices.EqualFunc(bodies, x.bodies, bytes.Equal) || n != x.want.Expect {
			t.Errorf("%d: told %q, %d", i, bodies, n)
		}
		if !sameIn(got, x.want) || !sameIn(old, in()) {
			t.Errorf("%d: got %v", i, got)
		}
		if rest := old.Held[:cap(old.Held)][2:]; !sameItems(rest, make([]api.Item, len(rest))) {
			t.Errorf("%d: the room behind what was handed in is changed", i)
		}
	}
}

// Ends may be whatever they are.
func TestTakeOdd(t *testing.T) {
	// Held may have what is waited for already, twice, and what is older.
	odd := api.In{Expect: 3, Held: []api.Item{item(1, "old", 0), item(3, "a", 7), item(3, "b", 0), item(4, "c", 0)}}
	got, bodies, n := link.Take(odd, 0, []byte("x"), 5)
	if n != 5 || !slices.EqualFunc(bodies, texts("a", "c"), bytes.Equal) || !sameItems(got.Held, []api.Item{item(1, "old", 0), item(3, "b", 0)}) {
		t.Errorf("got %v, %q, %d", got, bodies, n)
	}
	// Numbers go round.
	got, bodies, n = link.Take(api.In{Expect: maxInt, Held: []api.Item{item(minInt, "b", 0), item(maxInt, "a", 0)}}, 5, nil, 1)
	if n != minInt+1 || got.Expect != n || !slices.EqualFunc(bodies, texts("a", "b"), bytes.Equal) {
		t.Errorf("got %v, %q, %d", got, bodies, n)
	}
	got, bodies, n = link.Take(api.In{Expect: maxInt}, maxInt, []byte("x"), 1)
	if n != maxInt || len(bodies) != 0 || len(got.Held) != 0 {
		t.Errorf("got %v, %q, %d", got, bodies, n)
	}
	// An empty body is one, too.
	got, bodies, n = link.Take(api.In{}, 0, nil, 1)
	if n != 1 || got.Expect != 1 || len(bodies) != 1 || len(bodies[0]) != 0 {
		t.Errorf("got %v, %q, %d", got, bodies, n)
	}
}

type packet struct {
	ack  bool
	seq  int
	body []byte
}

// P14.5: whatever is lost, doubled, late, or out of order, bodies are told in order, each once, and, when nothing is lost any longer, all are.
func TestFollows(t *testing.T) {
	for seed := range int64(150) {
		r := rand.New(rand.NewSource(seed))
		window := 1 + r.Intn(5)
		var o api.Out
		var i api.In
		var way []packet
		var sent, got [][]byte
		put := func(items []api.Item) {
			for _, x := range items {
				way = append(way, packet{seq: x.Seq, body: x.Body})
			}
		}
		step := func(calm bool, now int) {
			for range len(way) {
				at := r.Intn(len(way))
				p := way[at]
				if calm || r.Intn(4) > 0 { // else it is doubled
					way = slices.Delete(way, at, at+1)
				}
				if !calm && r.Intn(3) == 0 {
					continue
				}
				var items []api.Item
				if p.ack {
					o, items = link.Ack(o, p.seq, window, now)
					put(items)
					continue
				}
				var bodies [][]byte
				var n int
				i, bodies, n = link.Take(i, p.seq, p.body, window)
				got = append(got, bodies...)
				way = append(way, packet{ack: true, seq: n})
			}
			var items []api.Item
			o, items = link.Again(o, 3, now)
			put(items)
			if len(o.Sent) > window || len(got) > len(sent) || !slices.EqualFunc(got, sent[:len(got)], bytes.Equal) {
				t.Fatalf("%d: told %q of %q", seed, got, sent)
			}
		}
		for now := range 60 {
			if len(sent) < 30 && r.Intn(2) == 0 {
				body := []byte{byte(len(sent)), byte(r.Intn(256))}
				sent = append(sent, body)
				var items []api.Item
				o, items = link.Send(o, body, window, now)
				put(items)
			}
			step(false, now)
		}
		for now := range 200 {
			step(true, now+60)
		}
		if !slices.EqualFunc(got, sent, bytes.Equal) || len(o.Sent)+len(o.Wait) != 0 {
			t.Fatalf("%d: told %q of %q", seed, got, sent)
		}
	}
}
