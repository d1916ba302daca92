package queue_test

import (
	"bytes"
	"math/rand"
	"reflect"
	"slices"
	"testing"

	"shallot/api"
	"shallot/queue"
)

const (
	maxInt = 1<<63 - 1
	minInt = -1 << 63
)

func cfg(clients, many int) api.Cfg { return api.Cfg{Clients: clients, Queue: many} }

func from(who, to int, seq uint64, text string) api.Letter {
	return api.Letter{From: who, To: to, Seq: seq, Text: []byte(text)}
}

func sameLetter(l, m api.Letter) bool {
	return l.Cover == m.Cover && l.From == m.From && l.To == m.To && l.Seq == m.Seq && bytes.Equal(l.Text, m.Text)
}

func same(q, x api.Queue) bool {
	return q.Next == x.Next && slices.EqualFunc(q.Items, x.Items, sameLetter)
}

// in tells a queue with room behind its letters, into which nobody may write.
func in() api.Queue {
	return api.Queue{Next: 9, Items: append(make([]api.Letter, 0, 8), from(1, 0, 7, "seven"), from(1, 2, 8, "eight"))}
}

func TestNew(t *testing.T) {
	for _, seq := range []uint64{0, 1, 5, api.MaxNumber} {
		if q := queue.New(seq); !same(q, api.Queue{Next: seq}) {
			t.Errorf("%d: got %v", seq, q)
		}
	}
}

func TestPut(t *testing.T) {
	full := in()
	end := in()
	end.Next = api.MaxNumber
	near := in()
	near.Next = api.MaxNumber - 1
	for i, x := range []struct {
		c        api.Cfg
		q        api.Queue
		from, to int
		text     int
		answer   int
	}{
		{cfg(3, 3), in(), 1, 2, 5, api.AcceptedR},
		{cfg(3, 3), in(), 1, 1, 0, api.AcceptedR},
		{cfg(3, 3), in(), 0, 0, 64, api.AcceptedR},
		{cfg(3, 64), in(), 2, 0, 1, api.AcceptedR},
		{cfg(3, maxInt), in(), 2, 0, 1, api.AcceptedR},
		{cfg(maxInt, 3), in(), 2, maxInt - 1, 1, api.AcceptedR},
		{cfg(3, 3), near, 2, 0, 1, api.AcceptedR},
		{cfg(3, 2), full, 1, 2, 5, api.FullR},
		{cfg(3, 1), full, 1, 2, 5, api.FullR},
		{cfg(3, 0), api.Queue{}, 1, 2, 5, api.FullR},
		{cfg(3, -1), api.Queue{}, 1, 2, 5, api.FullR},
		{cfg(3, minInt), full, 1, 2, 5, api.FullR},
		{cfg(3, 3), end, 1, 2, 5, api.HaltedR},
		{cfg(3, 2), end, 1, 2, 5, api.HaltedR},
		{cfg(3, 3), in(), 3, 2, 5, api.RejectedR},
		{cfg(3, 3), in(), -1, 2, 5, api.RejectedR},
		{cfg(3, 3), in(), 1, 3, 5, api.RejectedR},
		{cfg(3, 3), in(), 1, -1, 5, api.RejectedR},
		{cfg(3, 3), in(), maxInt, minInt, 5, api.RejectedR},
		{cfg(3, 3), in(), 1, 2, 65, api.RejectedR},
		{cfg(3, 2), full, 1, 2, 65, api.RejectedR},
		{cfg(3, 2), end, 1, 2, 65, api.RejectedR},
		{cfg(3, 2), end, 3, 2, 5, api.RejectedR},
		{cfg(3, 2), full, 1, 3, 5, api.RejectedR},
		{cfg(0, 3), in(), 0, 0, 5, api.RejectedR},
		{cfg(-4, 3), in(), -5, -5, 5, api.RejectedR},
	} {
		text := bytes.Repeat([]byte("t"), x.text)
		old := api.Queue{Next: x.q.Next, Items: slices.Clone(x.q.Items)}
		q, answer := queue.Put(x.c, x.q, x.from, x.to, text)
		want := api.Queue{Next: x.q.Next, Items: slices.Clone(x.q.Items)}
		if x.answer == api.AcceptedR {
			want.Items = append(want.Items, from(x.from, x.to, x.q.Next, string(text)))
			want.Next++
		}
		clear(text)
		if answer != x.answer || !same(q, want) || !same(x.q, old) {
			t.Errorf("%d: got %v, %d", i, q, answer)
		}
	}
	// What comes of one queue twice is not shared.
	q := in()
	a, _ := queue.Put(cfg(3, 9), q, 1, 2, []byte("a"))
	b, _ := queue.Put(cfg(3, 9), q, 1, 2, []byte("b"))
	if string(a.Items[2].Text) != "a" || string(b.Items[2].Text) != "b" {
		t.Errorf("got %v, %v", a, b)
	}
}

func TestHead(t *testing.T) {
	q := in()
	l, ok := queue.Head(q)
	if !ok || !sameLetter(l, from(1, 0, 7, "seven")) {
		t.Errorf("got %v, %t", l, ok)
	}
	if !same(q, in()) {
		t.Error("what was handed in is changed")
	}
	if l, ok := queue.Head(api.Queue{Next: 5}); ok || !reflect.DeepEqual(l, api.Letter{}) {
		t.Errorf("none: got %v, %t", l, ok)
	}
	if l, ok := queue.Head(api.Queue{Items: []api.Letter{{Cover: true}}}); !ok || !l.Cover {
		t.Errorf("a cover: got %v, %t", l, ok)
	}
}

func TestPop(t *testing.T) {
	for _, seq := range []uint64{0, 6, 8, 9, api.MaxNumber} {
		q := in()
		if got, ok := queue.Pop(q, seq); ok || !same(got, in()) || !same(q, in()) {
			t.Errorf("%d: got %v, %t", seq, got, ok)
		}
	}
	q := in()
	got, ok := queue.Pop(q, 7)
	if !ok || !same(got, api.Queue{Next: 9, Items: in().Items[1:]}) || !same(q, in()) {
		t.Errorf("got %v, %t", got, ok)
	}
	got, ok = queue.Pop(got, 8)
	if !ok || !same(got, api.Queue{Next: 9}) {
		t.Errorf("got %v, %t", got, ok)
	}
	for _, seq := range []uint64{0, 8, 9} {
		if again, ok := queue.Pop(got, seq); ok || !same(again, got) {
			t.Errorf("none, %d: got %v, %t", seq, again, ok)
		}
	}
	if got, ok := queue.Pop(api.Queue{Items: []api.Letter{{}}}, 0); !ok || len(got.Items) != 0 {
		t.Errorf("a zero one: got %v, %t", got, ok)
	}
}

// P17.3: letters come out in the order in which they were put in, with numbers that count on.
func TestFollows(t *testing.T) {
	r := rand.New(rand.NewSource(17))
	for range 100 {
		first := uint64(1 + r.Intn(5))
		many := 1 + r.Intn(5)
		q := queue.New(first)
		var in, out []string
		for i := range 200 {
			text := string([]byte{byte(i), byte(i >> 8)})
			if r.Intn(2) == 0 {
				var answer int
				wait := len(in) - len(out)
				q, answer = queue.Put(cfg(4, many), q, r.Intn(4), r.Intn(4), []byte(text))
				if answer == api.AcceptedR {
					in = append(in, text)
				}
				if (answer == api.AcceptedR) != (wait < many) {
					t.Fatalf("%d of %d wait: got %d", wait, many, answer)
				}
				continue
			}
			l, ok := queue.Head(q)
			if ok != (len(out) < len(in)) {
				t.Fatalf("%d in, %d out: got %t", len(in), len(out), ok)
			}
			if !ok {
				continue
			}
			if l.Seq != first+uint64(len(out)) {
				t.Fatalf("the number %d: got %d", len(out), l.Seq)
			}
			out = append(out, string(l.Text))
			q, ok = queue.Pop(q, l.Seq)
			if !ok {
				t.Fatal("the first one is not taken out")
			}
		}
		if !slices.Equal(out, in[:len(out)]) || len(q.Items) != len(in)-len(out) {
			t.Fatalf("in %q, out %q", in, out)
		}
	}
}
