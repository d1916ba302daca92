package bound_test

import (
	"math/rand"
	"reflect"
	"slices"
	"testing"

	"shallot/api"
	"shallot/bound"
	"shallot/world"
)

const (
	maxInt = 1<<63 - 1
	minInt = -1 << 63
	most   = api.MaxNumber
)

// tight tells a configuration whose rounds are just long enough for d.
func tight(chain, standby, clients, d int) api.Cfg {
	c := api.Cfg{Seed: []byte("bound"), Chain: chain, Standby: standby, Clients: clients, Queue: 8, Again: 3, Window: 4, Round: 1, Seq: 1}
	c.Close = 2*d + 2
	c.Long = c.Close + 2*(chain+1)*d + 4
	return c
}

func TestLong(t *testing.T) {
	for _, x := range []struct {
		chain, d int
	}{{1, 1}, {2, 1}, {3, 5}, {8, 16}, {1, 16}} {
		c := tight(x.chain, 1, 2, x.d)
		if !bound.Long(c, x.d) {
			t.Errorf("%v: not long enough", x)
		}
		if bound.Long(c, x.d+1) {
			t.Errorf("%v: long enough for one more", x)
		}
		short := c
		short.Long--
		if bound.Long(short, x.d) {
			t.Errorf("%v: Long is too short", x)
		}
		short = c
		short.Close--
		if bound.Long(short, x.d) {
			t.Errorf("%v: Close is too short", x)
		}
		longer := c
		longer.Chain++
		if bound.Long(longer, x.d) {
			t.Errorf("%v: with one more server", x)
		}
		wrong := c
		wrong.Seq = 0
		if bound.Long(wrong, x.d) {
			t.Errorf("%v: the configuration may not be", x)
		}
	}
	c := tight(1, 0, 1, 16)
	c.Close, c.Long = 5000, 10000
	for d, want := range map[int]bool{1: true, 15: true, 16: true, 17: false, 0: false, -1: false, minInt: false, maxInt: false, 1 << 62: false} {
		if bound.Long(c, d) != want {
			t.Errorf("%d: got %t", d, !want)
		}
	}
	c.Chain = 0
	if bound.Long(c, 1) || bound.Long(api.Cfg{}, 1) {
		t.Error("a configuration that may not be")
	}
}

func TestFine(t *testing.T) {
	for _, x := range []struct {
		fates []int
		d     int
		want  bool
	}{
		{nil, 0, true}, {nil, minInt, true}, {[]int{0}, 1, true}, {[]int{0}, 0, false}, {[]int{1}, 1, false}, {[]int{1}, 2, true},
		{[]int{16}, 1, true}, {[]int{17}, 1, false}, {[]int{15}, 15, false}, {[]int{15}, 16, true}, {[]int{31, 47, maxInt}, 16, true}, {[]int{maxInt}, 15, false},
		{[]int{-1}, 16, false}, {[]int{-16}, maxInt, false}, {[]int{minInt}, maxInt, false}, {[]int{0, 1, 2}, 3, true}, {[]int{0, 3, 2}, 3, false}, {[]int{0, 1, -2}, 3, false}, {[]int{0, 0, 1}, 1, false},
		{[]int{5}, maxInt, true}, {[]int{0}, minInt, false},
	} {
		old := slices.Clone(x.fates)
		if bound.Fine(x.fates, x.d) != x.want || !slices.Equal(x.fates, old) {
			t.Errorf("%v, %d: got %t", x.fates, x.d, !x.want)
		}
	}
}

// of tells a world with that chain, those that stand by, and those that are dead.
func of(chain, standby []int, dead ...bool) api.World {
	var w api.World
	w.Coord.Post.Stamp.Chain, w.Coord.Standby, w.Dead = chain, standby, dead
	return w
}

func TestFailed(t *testing.T) {
	c := tight(3, 2, 1, 1)
	for i, x := range []struct {
		w          api.World
		dead, live int
	}{
		{of([]int{1, 2, 3}, []int{4, 5}, false, false, false, false, false), 0, 2},
		{of([]int{1, 2, 3}, []int{4, 5}, true, false, true, false, true), 2, 1},
		{of([]int{4, 2, 3}, []int{5}, true, false, true, false, false), 1, 1},
		{of([]int{4, 2, 3}, nil, true, true, true, true, true), 3, 0},
		{of(nil, []int{4, 5}, false, true, true, true, false), 2, 1},
		{of([]int{}, nil, true, false, false), 1, 0},
		{of([]int{1, 2, 3}, []int{4, 5}), 3, 0},
		{of([]int{1, 2, 3}, []int{4, 5}, false, false), 1, 0},
		{of([]int{2, 2, 1, 2}, []int{1, 1, 2}, false, true), 3, 2},
		{of([]int{0, -1, minInt, maxInt, 1}, []int{0, -5, minInt, maxInt, 1}, false, false), 4, 1},
	} {
		if dead, live := bound.Failed(c, x.w); dead != x.dead || live != x.live {
			t.Errorf("%d: got %d, %d", i, dead, live)
		}
	}
	// Without a chain, of a configuration that may not be, there is none.
	if dead, live := bound.Failed(api.Cfg{}, of(nil, []int{1}, true)); dead != 0 || live != 0 {
		t.Errorf("got %d, %d", dead, live)
	}
}

func TestSure(t *testing.T) {
	good := func() api.World {
		w := of([]int{1, 2, 3}, []int{4, 5}, false, false, false, false, false)
		w.Net.Fates = []int{0, 18, 2}
		w.Coord.Post.Stamp.Round = 77
		return w
	}
	c := tight(3, 2, 2, 3)
	for i, x := range []struct {
		change func(*api.Cfg, *api.World)
		d      int
		want   bool
	}{
		{func(*api.Cfg, *api.World) {}, 3, true},
		{func(*api.Cfg, *api.World) {}, 2, false},
		{func(*api.Cfg, *api.World) {}, 4, false},
		{func(_ *api.Cfg, w *api.World) { w.Net.Fates = nil }, 1, true},
		{func(_ *api.Cfg, w *api.World) { w.Net.Fates = []int{-1} }, 3, false},
		{func(c *api.Cfg, _ *api.World) { c.Long-- }, 3, false},
		{func(c *api.Cfg, _ *api.World) { c.Round = 0 }, 3, false},
		{func(_ *api.Cfg, w *api.World) { w.Halted = true }, 3, false},
		{func(_ *api.Cfg, w *api.World) { w.Coord.Halted, w.Coord.NoChain = true, true }, 3, true},
		{func(_ *api.Cfg, w *api.World) { w.Coord.Post.Stamp.Round = most - 1000 }, 3, true},
		{func(_ *api.Cfg, w *api.World) { w.Coord.Post.Stamp.Round = most - 999 }, 3, false},
		{func(_ *api.Cfg, w *api.World) { w.Coord.Post.Stamp.Round = most }, 3, false},
		{func(_ *api.Cfg, w *api.World) { w.Coord.Post.Stamp.Epoch = most }, 3, true},
		{func(_ *api.Cfg, w *api.World) { w.Coord.Post.Stamp = api.Stamp{} }, 3, true},
		{func(_ *api.Cfg, w *api.World) { w.Coord.Post.Stamp = api.Stamp{Round: most - 999} }, 3, false},
		{func(c *api.Cfg, w *api.World) { c.Round, w.Coord.Post.Stamp = most, api.Stamp{} }, 3, true},
		{func(_ *api.Cfg, w *api.World) { w.Dead[0] = true }, 3, true},
		{func(_ *api.Cfg, w *api.World) { w.Dead[3] = true }, 3, true},
		{func(_ *api.Cfg, w *api.World) { w.Dead[3], w.Dead[4] = true, true }, 3, false},
		{func(_ *api.Cfg, w *api.World) { w.Dead[0], w.Dead[1] = true, true }, 3, false},
		{func(_ *api.Cfg, w *api.World) { w.Dead[0], w.Dead[4] = true, true }, 3, false},
		{func(_ *api.Cfg, w *api.World) { w.Coord.Standby = nil }, 3, true},
		{func(_ *api.Cfg, w *api.World) { w.Coord.Standby, w.Dead[2] = nil, true }, 3, false},
		{func(_ *api.Cfg, w *api.World) { w.Coord.Standby, w.Dead[3] = nil, true }, 3, true},
	} {
		c, w := c, good()
		x.change(&c, &w)
		if bound.Sure(c, w, x.d) != x.want {
			t.Errorf("%d: got %t", i, !x.want)
		}
	}
	w := good()
	bound.Sure(c, w, 3)
	if !reflect.DeepEqual(w, good()) {
		t.Error("what was handed in is changed")
	}
}

func TestRoundsTicks(t *testing.T) {
	for _, x := range []struct{ place, standby, want int }{
		{0, 0, 2}, {0, 1, 3}, {1, 0, 3}, {5, 8, 15}, {-1, -1, 0}, {maxInt, 0, minInt + 1}, {maxInt, maxInt, 0}, {minInt, minInt, 2},
	} {
		if n := bound.Rounds(x.place, x.standby); n != x.want {
			t.Errorf("%v: got %d", x, n)
		}
		for _, long := range []int{0, 1, 50, -3, maxInt, minInt} {
			if n := bound.Ticks(api.Cfg{Long: long, Close: 7}, x.place, x.standby); n != 1+x.want*long {
				t.Errorf("%v, %d: got %d", x, long, n)
			}
		}
	}
	if n := bound.Ticks(api.Cfg{Long: 50}, 0, 1); n != 151 {
		t.Errorf("got %d", n)
	}
}

func drawnFates(r *rand.Rand, many, d int, lossy bool) []int {
	var out []int
	for range many {
		fate := r.Intn(d) + 16*r.Intn(3)
		if lossy && r.Intn(4) == 0 {
			fate = -1
		} else if lossy {
			fate = r.Intn(64)
		}
		out = append(out, fate)
	}
	return out
}

// waited tells in which worlds of those to come each letter that waits has been put into the store by the tick that the bound tells.
func waited(t *testing.T, seed int64, c api.Cfg, w api.World, d int) {
	t.Helper()
	standby := len(w.Coord.Standby)
	queues := make([][]api.Letter, len(w.Clients))
	last := 0
	for who, x := range w.Clients {
		queues[who] = x.Queue.Items
		last = max(last, len(x.Queue.Items))
	}
	for ticks := 1; ticks <= bound.Ticks(c, last-1, standby); ticks++ {
		w, _ = world.Step(c, w, api.Act{Kind: api.TickA})
		for who, items := range queues {
			for place, l := range items {
				if ticks == bound.Ticks(c, place, standby) && w.Shared.Store.Last[who] < l.Seq {
					t.Fatalf("%d: chain %d, standby %d of %d, d %d, window %d, again %d: the letter %d at place %d of %d has not come", seed, c.Chain, standby, c.Standby, d, c.Window, c.Again, l.Seq, place, who)
				}
			}
		}
	}
}

// P22.4: in a world of which Sure is so, letters come by the tick that is told.
func TestFollows(t *testing.T) {
	sure := 0
	for seed := range int64(150) {
		r := rand.New(rand.NewSource(seed))
		d := 1 + r.Intn(4)
		c := tight(1+r.Intn(4), r.Intn(3), 1+r.Intn(3), d)
		c.Window, c.Again = 1+r.Intn(3), 1+r.Intn(3*d)
		w, _ := world.New(c, drawnFates(r, r.Intn(100), d, true), drawnFates(r, 20, 16, false))
		for range r.Intn(3 * c.Long) {
			w, _ = world.Step(c, w, api.Act{Kind: api.TickA})
			if r.Intn(10) == 0 {
				w, _ = world.Step(c, w, api.Act{Kind: api.SendA, Who: r.Intn(c.Clients), To: r.Intn(c.Clients), Text: []byte("x")})
			}
			if r.Intn(60) == 0 {
				w, _ = world.Step(c, w, api.Act{Kind: api.CrashA, Who: 1 + r.Intn(c.Chain+c.Standby)})
			}
		}
		w.Net.Fates = drawnFates(r, 400, d, false)
		for range 4 {
			w, _ = world.Step(c, w, api.Act{Kind: api.SendA, Who: r.Intn(c.Clients), To: r.Intn(c.Clients), Text: []byte("y")})
		}
		if bound.Sure(c, w, d) {
			sure++
			waited(t, seed, c, w, d)
		}
	}
	if sure < 30 {
		t.Errorf("sure of %d alone", sure)
	}
}
