package script_test

import (
	"math/rand"
	"reflect"
	"slices"
	"testing"

	"shallot/api"
	"shallot/bound"
	"shallot/key"
	"shallot/letter"
	"shallot/script"
	"shallot/stamp"
	"shallot/world"
)

const (
	maxInt = 1<<63 - 1
	minInt = -1 << 63
	most   = api.MaxNumber
)

// The servers are the nodes 1 to 3, the clients 4 to 6.
func cfg() api.Cfg {
	return api.Cfg{Seed: []byte("script"), Chain: 2, Standby: 1, Clients: 3, Queue: 3, Close: 4, Long: 14, Again: 3, Window: 4, Round: 1, Seq: 1}
}

func ticks(many int) []api.Act {
	return slices.Repeat([]api.Act{{Kind: api.TickA}}, many)
}

func say(who, to int, text string) api.Act {
	return api.Act{Kind: api.SendA, Who: who, To: to, Text: []byte(text)}
}

func receive(who int) api.Act { return api.Act{Kind: api.ReceiveA, Who: who} }

func status(who int) api.Act { return api.Act{Kind: api.StatusA, Who: who} }

func crash(n int) api.Act { return api.Act{Kind: api.CrashA, Who: n} }

// nilled makes all empty lists nil, through all of a value, and shares nothing with it: so that reflect holds what is the same for the same.
func nilled(v reflect.Value) reflect.Value {
	out := reflect.New(v.Type()).Elem()
	switch v.Kind() {
	case reflect.Slice:
		if v.Len() > 0 {
			out.Set(reflect.MakeSlice(v.Type(), v.Len(), v.Len()))
			for i := range v.Len() {
				out.Index(i).Set(nilled(v.Index(i)))
			}
		}
	case reflect.Struct:
		for i := range v.NumField() {
			out.Field(i).Set(nilled(v.Field(i)))
		}
	default:
		out.Set(v)
	}
	return out
}

func plain[T any](x T) T { return nilled(reflect.ValueOf(x)).Interface().(T) }

func same[T any](a, b T) bool { return reflect.DeepEqual(plain(a), plain(b)) }

func run(t *testing.T, c api.Cfg, fates, draws []int, l []api.Act) ([]api.Answer, api.World) {
	t.Helper()
	answers, w, e := script.Run(c, fates, draws, l)
	if e != api.OK || len(answers) != len(l) {
		t.Fatalf("got %d answers of %d, %d", len(answers), len(l), e)
	}
	return answers, w
}

func drawnNumbers(r *rand.Rand, many int) []int {
	var out []int
	for range many {
		out = append(out, r.Intn(60)-8)
	}
	return out
}

func drawnCfg(r *rand.Rand) api.Cfg {
	c := api.Cfg{Seed: []byte{byte(r.Intn(256))}, Chain: 1 + r.Intn(3), Standby: r.Intn(3), Clients: 1 + r.Intn(3), Queue: 1 + r.Intn(3)}
	c.Close, c.Again, c.Window, c.Round, c.Seq = 1+r.Intn(6), 1+r.Intn(5), 1+r.Intn(4), 1, 1
	c.Long = c.Close + 8 + r.Intn(20)
	return c
}

func drawnActs(r *rand.Rand, c api.Cfg, many int) []api.Act {
	var l []api.Act
	for range many {
		a := api.Act{Kind: api.TickA, Who: r.Intn(c.Clients+1) - r.Intn(2), To: r.Intn(c.Clients + 1), Text: make([]byte, r.Intn(67))}
		r.Read(a.Text)
		switch x := r.Intn(30); {
		case x < 3:
			a.Kind = api.SendA
		case x < 6:
			a.Kind = api.ReceiveA
		case x < 8:
			a.Kind = api.StatusA
		case x == 8 && r.Intn(6) == 0:
			a.Kind, a.Who = api.CrashA, r.Intn(c.Chain+c.Standby+2)
		case x == 9:
			a.Kind, a.Who, a.To, a.Bytes = api.InjectA, r.Intn(7), r.Intn(7), make([]byte, r.Intn(120))
			r.Read(a.Bytes)
		}
		l = append(l, a)
	}
	return l
}

func TestRunWrong(t *testing.T) {
	for _, change := range []func(*api.Cfg){
		func(c *api.Cfg) { *c = api.Cfg{} }, func(c *api.Cfg) { c.Window = 65 }, func(c *api.Cfg) { c.Chain = maxInt }, func(c *api.Cfg) { c.Round = 0 },
	} {
		c := cfg()
		change(&c)
		for _, l := range [][]api.Act{nil, ticks(3)} {
			if answers, w, e := script.Run(c, []int{1}, []int{2}, l); e != api.ErrArg || len(answers) != 0 || !reflect.DeepEqual(w, api.World{}) {
				t.Errorf("got %v, %v, %d", answers, w, e)
			}
		}
	}
}

func TestRun(t *testing.T) {
	answers, w := run(t, cfg(), []int{1, 2}, []int{3}, nil)
	want, _ := world.New(cfg(), []int{1, 2}, []int{3})
	if len(answers) != 0 || !same(w, want) {
		t.Errorf("no acts: got %v, %v", answers, w)
	}
	for seed := range int64(20) {
		r := rand.New(rand.NewSource(seed))
		c := drawnCfg(r)
		fates, draws, l := drawnNumbers(r, 100), drawnNumbers(r, 30), drawnActs(r, c, 200)
		oldFates, oldDraws, oldL := plain(fates), plain(draws), plain(l)
		answers, w := run(t, c, fates, draws, l)
		x, _ := world.New(c, oldFates, oldDraws)
		for i, a := range oldL {
			var want api.Answer
			x, want = world.Step(c, x, a)
			if !same(answers[i], want) {
				t.Fatalf("%d, %d: got %v", seed, i, answers[i])
			}
		}
		if !same(w, x) {
			t.Fatalf("%d: another world", seed)
		}
		// P0.8: played twice it comes to the same; what was handed in is not changed, nor shared.
		again, w2 := run(t, c, fates, draws, l)
		if !same(again, answers) || !same(w2, w) || !same(fates, oldFates) || !same(draws, oldDraws) || !same(l, oldL) {
			t.Fatalf("%d: another time it comes to something else", seed)
		}
		for i := range l {
			clear(l[i].Text)
			clear(l[i].Bytes)
		}
		clear(fates)
		clear(draws)
		if !same(w2, w) || !same(w, x) {
			t.Fatalf("%d: something is shared with what was handed in", seed)
		}
	}
}

func TestSends(t *testing.T) {
	_, w := run(t, cfg(), nil, nil, ticks(40))
	old := plain(w)
	many := 0
	for _, from := range []int{-1, 0, 1, 2, 3, 4, 5, 6, 7, maxInt, minInt} {
		var want []api.Sent
		for _, x := range w.Log {
			if x.From == from {
				want = append(want, x)
			}
		}
		l := script.Sends(w, from)
		if !same(l, want) {
			t.Errorf("%d: got %v", from, l)
		}
		many += len(l)
		for i := range l {
			l[i].Tick = 77
		}
	}
	if many != len(w.Log) || !same(w, old) {
		t.Errorf("%d of %d", many, len(w.Log))
	}
	if l := script.Sends(api.World{}, 0); len(l) != 0 {
		t.Errorf("got %v", l)
	}
}

func TestCalm(t *testing.T) {
	_, w := run(t, cfg(), []int{3, 4, -1, -1, -1, 17, -1}, []int{3}, append(ticks(1), say(0, 1, "x")))
	if len(w.Net.Fates) != 4 {
		t.Fatalf("got %v", w.Net)
	}
	old := plain(w)
	for _, many := range []int{minInt, -1, 0, 1, 2, 30} {
		got := script.Calm(cfg(), w, many)
		want := plain(w)
		want.Net.Fates = nil
		for range many {
			want, _ = world.Step(cfg(), want, api.Act{Kind: api.TickA})
		}
		if !same(got, want) || !same(w, old) || len(got.Net.Fates) != 0 {
			t.Errorf("%d: got %v", many, got)
		}
	}
	w.Halted = true
	if got := script.Calm(cfg(), w, 5); got.Now != w.Now || len(got.Net.Fates) != 0 {
		t.Errorf("halted: got %v", got)
	}
	// As many ticks as may be; of other worlds it ends.
	c := api.Cfg{Chain: 1, Clients: 1, Queue: 1, Close: 5000, Long: 10000, Again: 10000, Window: 1, Round: 1, Seq: 1}
	w, _ = world.New(c, nil, nil)
	if got := script.Calm(c, w, api.MaxTicks); got.Now != api.MaxTicks {
		t.Errorf("got %d", got.Now)
	}
	script.Calm(c, api.World{}, 99)
	script.Calm(api.Cfg{}, w, 99)
}

// P24.3: acts that stand behind change nothing of what was answered ahead of them.
func TestBehind(t *testing.T) {
	r := rand.New(rand.NewSource(24))
	for range 10 {
		c := drawnCfg(r)
		fates, draws, l := drawnNumbers(r, 100), drawnNumbers(r, 30), drawnActs(r, c, 120)
		all, _ := run(t, c, fates, draws, l)
		for n := 0; n <= len(l); n += 1 + r.Intn(20) {
			if answers, _ := run(t, c, fates, draws, l[:n]); !same(answers, all[:n]) {
				t.Fatalf("%d: other answers", n)
			}
		}
	}
}

// P24.3: when nobody stands by, and the chain has failed, that is told, and clients send their onions all the same.
func TestNoChain(t *testing.T) {
	c := cfg()
	l := slices.Concat([]api.Act{say(0, 1, "x"), crash(1), crash(2), crash(3)}, ticks(100), []api.Act{status(0), status(2)}, ticks(100), []api.Act{status(1)})
	answers, w := run(t, c, nil, nil, l)
	for _, a := range []api.Answer{answers[104], answers[105], answers[206]} {
		if a.Kind != api.StatusR || !a.NoChain {
			t.Errorf("got %v", a)
		}
	}
	if answers[104].Waiting != 1 || answers[105].Waiting != 0 || len(w.Shared.Store.Boxes[1]) != 0 {
		t.Errorf("got %v, %v", answers[104], answers[105])
	}
	for who := range 3 {
		onions := map[uint64]int{}
		for _, x := range script.Sends(w, key.Node(c, who)) {
			if x.First {
				onions[x.Stamp.Round]++
			}
		}
		if len(onions) < 13 || onions[1] != 1 || onions[13] != 1 {
			t.Errorf("%d: got %v", who, onions)
		}
	}
}

// P0.1: whatever happens to frames, and whoever crashes, what each client received of each other one is a beginning of what that one sent to it, and was accepted.
func TestEachOnce(t *testing.T) {
	come := 0
	for seed := range int64(60) {
		r := rand.New(rand.NewSource(seed))
		c := drawnCfg(r)
		l := drawnActs(r, c, 700)
		answers, _ := run(t, c, drawnNumbers(r, 500), drawnNumbers(r, 50), l)
		said, got := map[[2]int][]string{}, map[[2]int][]string{}
		for i, a := range answers {
			if a.Kind == api.AcceptedR {
				said[[2]int{l[i].Who, l[i].To}] = append(said[[2]int{l[i].Who, l[i].To}], string(l[i].Text))
			}
			if a.Kind == api.LetterR {
				got[[2]int{a.Letter.From, l[i].Who}] = append(got[[2]int{a.Letter.From, l[i].Who}], string(a.Letter.Text))
				come++
			}
		}
		for pair, g := range got {
			if s := said[pair]; len(g) > len(s) || !slices.Equal(g, s[:len(g)]) {
				t.Fatalf("%d: %v: %q of %q", seed, pair, g, s)
			}
		}
	}
	if come < 200 {
		t.Errorf("%d letters have come", come)
	}
}

// P0.2: when frames are no longer lost, nor late, and enough servers are left, letters come within as many rounds as bound tells.
func TestInTime(t *testing.T) {
	sure := 0
	for seed := range int64(60) {
		r := rand.New(rand.NewSource(seed + 100))
		c := drawnCfg(r)
		c.Close, c.Long = 4, 4+2*(c.Chain+1)+4
		_, w := run(t, c, drawnNumbers(r, 200), nil, drawnActs(r, c, 200))
		w.Net.Fates = nil
		if !bound.Sure(c, w, 1) {
			continue
		}
		sure++
		for who, x := range w.Clients {
			for place, l := range x.Queue.Items {
				if got := script.Calm(c, w, bound.Ticks(c, place, len(w.Coord.Standby))); got.Shared.Store.Last[who] < l.Seq {
					t.Errorf("%d: the letter %d of %d has not come", seed, l.Seq, who)
				}
			}
		}
	}
	if sure < 20 {
		t.Errorf("sure of %d alone", sure)
	}
	// The example: with one that stands by, the first one comes within 3 rounds.
	c := cfg()
	_, w := run(t, c, nil, nil, slices.Concat(ticks(3), []api.Act{say(0, 1, "x"), crash(2)}))
	if w = script.Calm(c, w, 3*c.Long+1); len(w.Shared.Store.Boxes[1]) != 1 {
		t.Errorf("got %v", w.Shared)
	}
}

// P0.3: what clients say, and to whom, changes nothing of what anybody sends.
func TestOneShape(t *testing.T) {
	for seed := range int64(10) {
		r := rand.New(rand.NewSource(seed + 200))
		c := drawnCfg(r)
		fates, draws, l := drawnNumbers(r, 200), drawnNumbers(r, 30), drawnActs(r, c, 300)
		silent := slices.DeleteFunc(plain(l), func(a api.Act) bool { return a.Kind == api.SendA })
		_, w := run(t, c, fates, draws, l)
		_, x := run(t, c, fates, draws, silent)
		for node := range key.Nodes(c) {
			if !same(script.Sends(w, node), script.Sends(x, node)) {
				t.Fatalf("%d: the node %d sends something else", seed, node)
			}
		}
	}
}

// P0.4: a letter is refused as too many just if as many wait as a queue holds; how many wait is told.
func TestQueues(t *testing.T) {
	c := cfg()
	l := []api.Act{say(0, 1, "a"), status(0), say(0, 1, "b"), say(0, 1, "c"), status(0), say(0, 1, "d"), say(1, 1, "e"), status(0), status(1)}
	l = slices.Concat(l, ticks(16), []api.Act{status(0), say(0, 1, "f"), say(0, 1, "g")})
	answers, _ := run(t, c, nil, nil, l)
	for i, want := range []int{api.AcceptedR, 1, api.AcceptedR, api.AcceptedR, 3, api.FullR, api.AcceptedR, 3, 1} {
		if a := answers[i]; a.Kind != want && (a.Kind != api.StatusR || a.Waiting != want) {
			t.Errorf("%d: got %v", i, a)
		}
	}
	if tail := answers[len(answers)-3:]; tail[0].Waiting != 2 || tail[1].Kind != api.AcceptedR || tail[2].Kind != api.FullR {
		t.Errorf("got %v", tail)
	}
}

// P0.5: when numbers come to their end, all is halted, and told so for good.
func TestHalted(t *testing.T) {
	rounds, letters := cfg(), cfg()
	rounds.Round = most - 2
	letters.Seq = most - 2
	for _, x := range []struct {
		c    api.Cfg
		l    []api.Act
		last int // the last act that is not answered by HaltedR
	}{
		{rounds, ticks(40), 28},
		{letters, []api.Act{say(0, 1, "a"), {Kind: api.TickA}, say(0, 1, "b"), say(1, 1, "c"), {Kind: api.TickA}}, 2},
	} {
		l := append(plain(x.l), say(0, 1, "x"), status(0), receive(1), crash(1), api.Act{Kind: api.InjectA}, api.Act{})
		answers, w := run(t, x.c, nil, nil, l)
		for i, a := range answers {
			if (a.Kind == api.HaltedR) != (i > x.last) {
				t.Errorf("%d: got %v", i, a)
			}
		}
		if !w.Halted || !same(script.Calm(x.c, w, 9), w) {
			t.Errorf("got %v", w)
		}
	}
}

// P0.6: in each epoch there is one chain; each new one has one server more that stood by, and one less that failed.
func TestEpochs(t *testing.T) {
	c := cfg()
	c.Chain, c.Standby, c.Close, c.Long = 3, 3, 4, 16
	for seed := range int64(30) {
		r := rand.New(rand.NewSource(seed))
		dead := map[int]bool{}
		var l []api.Act
		for range 3 {
			n := 1 + r.Intn(6)
			dead[n] = true
			l = slices.Concat(l, ticks(r.Intn(80)), []api.Act{crash(n)})
		}
		_, w := run(t, c, nil, nil, append(l, ticks(200)...))
		chains := map[uint64][]int{}
		var last api.Stamp
		for _, x := range w.Log {
			if chain, ok := chains[x.Stamp.Epoch]; ok && !slices.Equal(chain, x.Stamp.Chain) {
				t.Fatalf("%d: %v, and %v", seed, chain, x.Stamp.Chain)
			}
			chains[x.Stamp.Epoch] = x.Stamp.Chain
			if x.From != 0 || stamp.Same(x.Stamp, last) {
				continue
			}
			if len(last.Chain) > 0 && x.Stamp.Epoch != last.Epoch {
				var out, in []int
				for i, n := range x.Stamp.Chain {
					if n != last.Chain[i] {
						out, in = append(out, last.Chain[i]), append(in, n)
					}
				}
				if x.Stamp.Epoch != last.Epoch+1 || len(out) != 1 || !dead[out[0]] || slices.Contains(last.Chain, in[0]) || in[0] < 4 {
					t.Fatalf("%d: %v behind %v", seed, x.Stamp, last)
				}
			}
			last = x.Stamp
		}
		alive := 0
		for n := 1; n <= 6; n++ {
			if !dead[n] {
				alive++
			}
		}
		if alive < 3 || w.Coord.NoChain {
			t.Fatalf("%d: no chain, with %d", seed, alive)
		}
		for _, n := range last.Chain {
			if dead[n] {
				t.Fatalf("%d: %d is dead, and in the last chain", seed, n)
			}
		}
	}
}

// P0.7: all onions go through all servers of a chain, whatever is drawn; letters are put into the store, and each client has the reply that it waits for.
func TestOnions(t *testing.T) {
	for seed := range int64(20) {
		r := rand.New(rand.NewSource(seed))
		c := cfg()
		c.Chain, c.Clients, c.Close, c.Long = 1+r.Intn(8), 1+r.Intn(8), 4, 40
		var l []api.Act
		for who := range c.Clients {
			l = append(l, say(who, (who+1)%c.Clients, string(rune('a'+who))))
		}
		_, w := run(t, c, nil, drawnNumbers(r, r.Intn(60)), append(l, ticks(40)...))
		for who, x := range w.Clients {
			box := w.Shared.Store.Boxes[(who+1)%c.Clients]
			want := api.Letter{From: who, To: (who + 1) % c.Clients, Seq: 1, Text: []byte{'a' + byte(who)}}
			if len(box) != 1 || !letter.Same(box[0], want) || len(x.Queue.Items) != 0 || !x.Said || len(x.Want) != 0 {
				t.Fatalf("%d: the letter of %d: %v, %v", seed, who, box, x)
			}
		}
		for n := 1; n <= c.Chain; n++ {
			if x := w.Servers[n-1]; !x.Backed || len(x.Mix.Out) != c.Clients {
				t.Fatalf("%d: the server %d: %v", seed, n, x)
			}
		}
	}
}
