package model_test

import (
	"math/rand"
	"reflect"
	"slices"
	"testing"

	"shallot/api"
	"shallot/letter"
	"shallot/model"
	"shallot/world"
)

const (
	maxInt = 1<<63 - 1
	minInt = -1 << 63
)

func cfg() api.Cfg {
	return api.Cfg{Seed: []byte("model"), Chain: 2, Standby: 1, Clients: 3, Queue: 3, Close: 6, Long: 24, Again: 3, Window: 4, Round: 1, Seq: 7}
}

func made(t *testing.T) api.Model {
	t.Helper()
	m, e := model.New(cfg())
	if e != api.OK {
		t.Fatalf("got %d", e)
	}
	return m
}

func from(who, to int, seq uint64, text string) api.Letter {
	return api.Letter{From: who, To: to, Seq: seq, Text: []byte(text)}
}

// roomy copies a model, with room behind its lists, into which nobody may write.
func roomy(m api.Model) api.Model {
	letters := func(l []api.Letter) []api.Letter {
		out := make([]api.Letter, 0, len(l)+3)
		for _, x := range l {
			x.Text = slices.Clone(x.Text)
			out = append(out, x)
		}
		return out
	}
	var out api.Model
	for _, q := range m.Queues {
		out.Queues = append(out.Queues, api.Queue{Next: q.Next, Items: letters(q.Items)})
	}
	for _, box := range m.Boxes {
		out.Boxes = append(out.Boxes, letters(box))
	}
	out.Come = slices.Clone(m.Come)
	return out
}

func sameLetters(a, b []api.Letter) bool { return slices.EqualFunc(a, b, letter.Same) }

func same(a, b api.Model) bool {
	return slices.EqualFunc(a.Queues, b.Queues, func(x, y api.Queue) bool { return x.Next == y.Next && sameLetters(x.Items, y.Items) }) &&
		slices.Equal(a.Come, b.Come) && slices.EqualFunc(a.Boxes, b.Boxes, sameLetters)
}

// in tells a model of three clients, of which the first one's first letter has come.
func in() api.Model {
	return roomy(api.Model{
		Queues: []api.Queue{{Next: 9, Items: []api.Letter{from(0, 2, 7, "a"), from(0, 1, 8, "b")}}, {Next: 8, Items: []api.Letter{from(1, 1, 7, "c")}}, {Next: 7}},
		Come:   []int{1, 0, 0},
		Boxes:  [][]api.Letter{nil, {from(2, 1, 5, "d")}, {from(0, 2, 7, "a"), from(1, 2, 6, "e")}},
	})
}

func TestNew(t *testing.T) {
	c := cfg()
	for _, clients := range []int{1, 3, 8} {
		for _, seq := range []uint64{1, 7, api.MaxNumber} {
			c.Clients, c.Seq = clients, seq
			m, e := model.New(c)
			want := api.Model{Come: make([]int, clients), Boxes: make([][]api.Letter, clients)}
			for range clients {
				want.Queues = append(want.Queues, api.Queue{Next: seq})
			}
			if e != api.OK || !same(m, want) {
				t.Errorf("%d: got %v, %d", clients, m, e)
			}
		}
	}
	for _, change := range []func(*api.Cfg){
		func(c *api.Cfg) { *c = api.Cfg{} }, func(c *api.Cfg) { c.Clients = 9 }, func(c *api.Cfg) { c.Clients = maxInt },
		func(c *api.Cfg) { c.Seq = 0 }, func(c *api.Cfg) { c.Chain = 0 }, func(c *api.Cfg) { c.Seed = make([]byte, 65) },
	} {
		c := cfg()
		change(&c)
		if m, e := model.New(c); e != api.ErrArg || !reflect.DeepEqual(m, api.Model{}) {
			t.Errorf("got %v, %d", m, e)
		}
	}
}

func TestSay(t *testing.T) {
	end := in()
	end.Queues[2].Next = api.MaxNumber
	for i, x := range []struct {
		m        api.Model
		who, to  int
		many     int
		answer   int
		accepted bool
	}{
		{in(), 0, 1, 5, api.AcceptedR, true},
		{in(), 2, 2, 64, api.AcceptedR, true},
		{in(), 1, 0, 0, api.AcceptedR, true},
		{in(), 1, 3, 5, api.RejectedR, false},
		{in(), 1, -1, 5, api.RejectedR, false},
		{in(), 1, 1, 65, api.RejectedR, false},
		{in(), 3, 1, 5, api.RejectedR, false},
		{in(), -1, 1, 5, api.RejectedR, false},
		{in(), maxInt, 1, 5, api.RejectedR, false},
		{in(), minInt, 1, 5, api.RejectedR, false},
		{end, 2, 1, 5, api.HaltedR, false},
		{end, 0, 1, 5, api.AcceptedR, true},
		{api.Model{}, 0, 0, 5, api.RejectedR, false},
	} {
		old, text := roomy(x.m), make([]byte, x.many)
		m, answer := model.Say(cfg(), x.m, x.who, x.to, text)
		want := roomy(x.m)
		if x.accepted {
			q := &want.Queues[x.who]
			q.Items = append(q.Items, from(x.who, x.to, q.Next, string(text)))
			q.Next++
		}
		if x.many > 0 {
			text[0] = 'x'
		}
		if answer != x.answer || !same(m, want) || !same(x.m, old) {
			t.Errorf("%d: got %v, %d", i, m, answer)
		}
	}
	m, _ := model.Say(cfg(), in(), 0, 1, nil)
	if m, answer := model.Say(cfg(), m, 0, 1, nil); answer != api.FullR || len(m.Queues[0].Items) != 3 {
		t.Errorf("got %v, %d", m, answer)
	}
}

// short tells models in which one of the lists is too short for the client 2.
func short() []api.Model {
	a, b, c := in(), in(), in()
	a.Queues, b.Come, c.Boxes = a.Queues[:2], b.Come[:2], c.Boxes[:2]
	for _, m := range []api.Model{a, b, c} {
		if len(m.Come) > 2 {
			m.Come[2] = 1
		}
		if len(m.Queues) > 2 {
			m.Queues[2].Items = []api.Letter{from(2, 0, 1, "x"), from(2, 0, 2, "y")}
		}
	}
	return []api.Model{a, b, c}
}

// A client is below how many there are of each list.
func TestShort(t *testing.T) {
	for i, m := range short() {
		if n := model.Waiting(m, 2); n != 0 {
			t.Errorf("%d: %d wait", i, n)
		}
		if got, answer := model.Say(cfg(), m, 2, 0, nil); answer != api.RejectedR || !same(got, m) {
			t.Errorf("%d: say: got %v, %d", i, got, answer)
		}
		if got, ok := model.Come(m, 2); ok || !same(got, m) {
			t.Errorf("%d: come: got %v", i, got)
		}
		if got, ok := model.Gone(m, 2); ok || !same(got, m) {
			t.Errorf("%d: gone: got %v", i, got)
		}
		if got, l, ok := model.Take(m, 2); ok || !same(got, m) || !reflect.DeepEqual(l, api.Letter{}) {
			t.Errorf("%d: take: got %v", i, got)
		}
		// Nor does a letter come to such a one.
		m.Queues[0].Items[0].To, m.Come[0] = 2, 0
		if got, ok := model.Come(m, 0); ok || !same(got, m) {
			t.Errorf("%d: come to: got %v", i, got)
		}
	}
}

func TestWaiting(t *testing.T) {
	for who, want := range map[int]int{0: 2, 1: 1, 2: 0, 3: 0, -1: 0, maxInt: 0, minInt: 0} {
		if n := model.Waiting(in(), who); n != want {
			t.Errorf("%d: got %d", who, n)
		}
	}
}

func TestCome(t *testing.T) {
	for i, x := range []struct {
		who, come, to int
		ok            bool
	}{
		{0, 1, 1, true}, {0, 0, 2, true}, {0, 1, 0, true}, {1, 0, 1, true},
		{0, 2, 1, false}, {0, -1, 1, false}, {0, maxInt, 1, false}, {0, minInt, 1, false}, {1, 1, 1, false},
		{0, 1, 3, false}, {0, 1, -1, false}, {0, 1, maxInt, false},
	} {
		m := in()
		m.Come[x.who] = x.come
		if x.ok || x.come == 1 && x.who == 0 {
			m.Queues[x.who].Items[x.come].To = x.to
		}
		old := roomy(m)
		got, ok := model.Come(m, x.who)
		want := roomy(m)
		if x.ok {
			want.Boxes[x.to] = append(want.Boxes[x.to], want.Queues[x.who].Items[x.come])
			want.Come[x.who]++
		}
		if ok != x.ok || !same(got, want) || !same(m, old) {
			t.Errorf("%d: got %v, %t", i, got, ok)
		}
	}
	for _, who := range []int{2, 3, -1, maxInt, minInt} {
		if got, ok := model.Come(in(), who); ok || !same(got, in()) {
			t.Errorf("%d: got %v", who, got)
		}
	}
	// What comes of one model twice is not shared.
	m := in()
	a, _ := model.Come(m, 0)
	b, _ := model.Come(m, 1)
	if string(a.Boxes[1][1].Text) != "b" || string(b.Boxes[1][1].Text) != "c" {
		t.Errorf("got %v, %v", a, b)
	}
}

func TestGone(t *testing.T) {
	for i, x := range []struct {
		who, come int
		ok        bool
	}{
		{0, 1, true}, {0, 2, true}, {0, 9, true}, {0, maxInt, true}, {1, 1, true},
		{0, 0, false}, {0, -1, false}, {0, minInt, false}, {2, 1, false}, {2, maxInt, false},
	} {
		m := in()
		m.Come[x.who] = x.come
		old := roomy(m)
		got, ok := model.Gone(m, x.who)
		want := roomy(m)
		if x.ok {
			want.Queues[x.who].Items = want.Queues[x.who].Items[1:]
			want.Come[x.who]--
		}
		if ok != x.ok || !same(got, want) || !same(m, old) {
			t.Errorf("%d: got %v, %t", i, got, ok)
		}
	}
	for _, who := range []int{1, 3, -1, maxInt, minInt} {
		if got, ok := model.Gone(in(), who); ok || !same(got, in()) {
			t.Errorf("%d: got %v", who, got)
		}
	}
}

func TestTake(t *testing.T) {
	for _, who := range []int{1, 2} {
		m := in()
		got, l, ok := model.Take(m, who)
		want := in()
		want.Boxes[who] = want.Boxes[who][1:]
		if !ok || !letter.Same(l, in().Boxes[who][0]) || !same(got, want) {
			t.Errorf("%d: got %v, %v, %t", who, got, l, ok)
		}
		if !same(m, in()) {
			t.Errorf("%d: what was handed in is changed", who)
		}
	}
	for _, who := range []int{0, 3, -1, maxInt, minInt} {
		if got, l, ok := model.Take(in(), who); ok || !same(got, in()) || !reflect.DeepEqual(l, api.Letter{}) {
			t.Errorf("%d: got %v, %v", who, got, l)
		}
	}
}

// The example: a letter that has come stands in its queue till it is gone.
func TestExample(t *testing.T) {
	m, _ := model.Say(cfg(), made(t), 0, 1, []byte("hi"))
	m, come := model.Come(m, 0)
	if !come || model.Waiting(m, 0) != 1 || len(m.Boxes[1]) != 1 {
		t.Errorf("got %v", m)
	}
	if _, again := model.Come(m, 0); again {
		t.Error("it has come twice")
	}
	m, gone := model.Gone(m, 0)
	if !gone || model.Waiting(m, 0) != 0 || len(m.Boxes[1]) != 1 || m.Come[0] != 0 {
		t.Errorf("got %v", m)
	}
}

// P23.6: a world answers as a model, in which Come and Gone are done when a letter is put into the store, and taken out of a queue.
func TestFollows(t *testing.T) {
	kinds := map[int]int{}
	for seed := range int64(60) {
		r := rand.New(rand.NewSource(seed))
		c := api.Cfg{Seed: []byte{byte(seed)}, Chain: 1 + r.Intn(3), Standby: r.Intn(3), Clients: 1 + r.Intn(3), Queue: 1 + r.Intn(4), Window: 1 + r.Intn(4), Again: 1 + r.Intn(6), Round: 1, Seq: 1 + uint64(r.Intn(9))}
		c.Close = 2 + r.Intn(5)
		c.Long = c.Close + 6 + r.Intn(20)
		var fates []int
		for range r.Intn(300) {
			fates = append(fates, r.Intn(60)-10)
		}
		w, e := world.New(c, fates, []int{3, 1, 4, 1, 5, 9, 2, 6})
		m, e2 := model.New(c)
		if e != api.OK || e2 != api.OK {
			t.Fatalf("got %d, %d", e, e2)
		}
		for i := range 400 {
			a := api.Act{Kind: api.TickA, Who: r.Intn(5) - 1, To: r.Intn(5) - 1, Text: make([]byte, r.Intn(66))}
			if r.Intn(3) == 0 {
				a.Kind = []int{api.SendA, api.SendA, api.ReceiveA, api.StatusA, api.CrashA, api.InjectA}[r.Intn(6)]
			}
			if a.Kind == api.CrashA && r.Intn(10) > 0 {
				a.Kind = api.StatusA
			}
			var answer api.Answer
			w, answer = world.Step(c, w, a)
			kinds[answer.Kind]++
			switch a.Kind {
			case api.SendA:
				var want int
				m, want = model.Say(c, m, a.Who, a.To, a.Text)
				if answer.Kind != want {
					t.Fatalf("%d, %d: got %v", seed, i, answer)
				}
			case api.ReceiveA:
				next, l, ok := model.Take(m, a.Who)
				m = next
				if ok != (answer.Kind == api.LetterR) || !letter.Same(l, answer.Letter) {
					t.Fatalf("%d, %d: got %v", seed, i, answer)
				}
			case api.StatusA:
				if answer.Waiting != model.Waiting(m, a.Who) {
					t.Fatalf("%d, %d: got %v", seed, i, answer)
				}
			}
			// Letters come in the order in which they stand in the boxes.
			for who, box := range w.Shared.Store.Boxes {
				for len(m.Boxes[who]) < len(box) {
					var ok bool
					if m, ok = model.Come(m, box[len(m.Boxes[who])].From); !ok {
						t.Fatalf("%d, %d: a letter for %d does not come", seed, i, who)
					}
				}
			}
			for who, last := range w.Shared.Store.Last {
				if come := m.Queues[who].Next - uint64(model.Waiting(m, who)) + uint64(m.Come[who]); come != last+1 {
					t.Fatalf("%d, %d: of %d the letter %d was put in last, not %d", seed, i, who, last, come)
				}
				for model.Waiting(m, who) > len(w.Clients[who].Queue.Items) {
					var ok bool
					if m, ok = model.Gone(m, who); !ok {
						t.Fatalf("%d, %d: a letter of %d does not go", seed, i, who)
					}
				}
			}
			for who, box := range m.Boxes {
				if !sameLetters(box, w.Shared.Store.Boxes[who]) {
					t.Fatalf("%d, %d: %v for %d, not %v", seed, i, w.Shared.Store.Boxes[who], who, box)
				}
			}
		}
	}
	for _, k := range []int{api.DoneR, api.AcceptedR, api.FullR, api.RejectedR, api.EmptyR, api.LetterR, api.StatusR} {
		if kinds[k] < 30 {
			t.Errorf("the answer %d came %d times", k, kinds[k])
		}
	}
}
