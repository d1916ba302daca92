package batch_test

import (
	"bytes"
	"math/rand"
	"reflect"
	"runtime"
	"slices"
	"testing"
	"time"

	"shallot/api"
	"shallot/batch"
	"shallot/layer"
	"shallot/onion"
	"shallot/perm"
)

const (
	maxInt = 1<<63 - 1
	minInt = -1 << 63
)

func some(seed int64, n int) []byte {
	b := make([]byte, n)
	rand.New(rand.NewSource(seed)).Read(b)
	return b
}

func keys(seed int64, many, long int) [][]byte {
	var out [][]byte
	for i := range many {
		out = append(out, some(seed*100+int64(i), long))
	}
	return out
}

// onions tells so many, as they stand at a hop.
func onions(servers [][]byte, hop, many int) [][]byte {
	var out [][]byte
	for i := range many {
		b, _ := onion.Wrap(servers, keys(int64(i)+500, len(servers), 16), some(int64(i)+900, 78))
		for h := range hop {
			b, _, _ = onion.Peel(servers[h], h, len(servers), b)
		}
		out = append(out, b)
	}
	return out
}

func cloned(l [][]byte) [][]byte {
	var out [][]byte
	for _, b := range l {
		out = append(out, slices.Clone(b))
	}
	return out
}

func TestMixWrong(t *testing.T) {
	for _, x := range [][2]int{{0, 0}, {0, 9}, {0, -1}, {-1, 3}, {3, 3}, {maxInt, 8}, {minInt, 1}, {0, maxInt}, {0, minInt}} {
		for _, l := range [][][]byte{nil, make([][]byte, 3), make([][]byte, 65)} {
			if m, n, e := batch.Mix([]byte("k"), x[0], x[1], l, []int{1}); e != api.ErrArg || n != 0 || !reflect.DeepEqual(m, api.Mix{}) {
				t.Errorf("%v: got %v, %d, %d", x, m, n, e)
			}
		}
	}
	for _, n := range []int{65, 100, 5000} {
		if m, n, e := batch.Mix([]byte("k"), 0, 1, make([][]byte, n), []int{1}); e != api.ErrArg || n != 0 || !reflect.DeepEqual(m, api.Mix{}) {
			t.Errorf("%d parts: got %v, %d, %d", n, m, n, e)
		}
	}
}

func same(m, x api.Mix) bool {
	return slices.EqualFunc(m.Out, x.Out, bytes.Equal) && slices.Equal(m.From, x.From) && slices.EqualFunc(m.Keys, x.Keys, bytes.Equal)
}

func none(m api.Mix) bool { return len(m.Out)+len(m.From)+len(m.Keys) == 0 }

func TestMixBad(t *testing.T) {
	for _, l := range [][][]byte{nil, {}, {nil}, {nil, {1}, make([]byte, 222)}, make([][]byte, 64), keys(1, 64, 222)} {
		m, n, e := batch.Mix([]byte("k"), 0, 3, l, []int{1, 2})
		if e != api.OK || n != 0 || !none(m) {
			t.Errorf("%d parts: got %v, %d, %d", len(l), m, n, e)
		}
		back, e := batch.Back(m, len(l), nil)
		if e != api.OK || len(back) != len(l) {
			t.Errorf("%d parts: got %v, %d", len(l), back, e)
		}
		for _, b := range back {
			if !bytes.Equal(b, make([]byte, 32)) {
				t.Errorf("%d parts: got %x", len(l), b)
			}
		}
	}
}

// want is worked out from the words of the chapter, one by one.
func want(server []byte, hop, hops int, l [][]byte, draws []int) (api.Mix, int) {
	var good api.Mix
	for i, b := range l {
		if out, k, e := onion.Peel(server, hop, hops, b); e == api.OK {
			good.Out = append(good.Out, out)
			good.From = append(good.From, i)
			good.Keys = append(good.Keys, k)
		}
	}
	p, used, _ := perm.Shuffle(len(good.Out), draws)
	var m api.Mix
	for _, x := range p {
		m.Out = append(m.Out, good.Out[x])
		m.From = append(m.From, good.From[x])
		m.Keys = append(m.Keys, good.Keys[x])
	}
	return m, used
}

func TestMix(t *testing.T) {
	r := rand.New(rand.NewSource(1))
	before := runtime.NumGoroutine()
	for hops := 1; hops <= 8; hops++ {
		servers := keys(int64(hops), hops, 32)
		for hop := range hops {
			for _, many := range []int{0, 1, 2, 7, 64} {
				l := onions(servers, hop, many)
				for i := range l { // every third one is spoilt
					if i%3 == 1 {
						l[i][r.Intn(40)] ^= 1
					}
				}
				draws := []int{r.Int(), -r.Int(), r.Int(), r.Int(), r.Int()}[:r.Intn(6)]
				old, oldDraws := cloned(l), slices.Clone(draws)
				m, used, e := batch.Mix(servers[hop], hop, hops, l, draws)
				w, wantUsed := want(servers[hop], hop, hops, l, draws)
				if e != api.OK || used != wantUsed || !same(m, w) {
					t.Fatalf("%d of %d, %d onions: got %v, %d, %d", hop, hops, many, m.From, used, e)
				}
				for i := range m.Out {
					m.Out[i][0]++
					m.Keys[i][0]++
				}
				if !slices.EqualFunc(l, old, bytes.Equal) || !slices.Equal(draws, oldDraws) {
					t.Fatalf("%d of %d: what was handed in is changed", hop, hops)
				}
			}
		}
	}
	// Whoever is done may still be about to go.
	for i := 0; runtime.NumGoroutine() > before; i++ {
		if i == 1000 {
			t.Fatalf("%d goroutines are left", runtime.NumGoroutine()-before)
		}
		time.Sleep(time.Millisecond)
	}
}

// With few draws, what is left of them is told; the same onion twice is two.
func TestMixDraws(t *testing.T) {
	servers := keys(3, 2, 32)
	l := onions(servers, 0, 3)
	l = append(l, l[0])
	m, used, e := batch.Mix(servers[0], 0, 2, l, []int{3, 2, 1, 7, 8})
	if e != api.OK || used != 3 || !slices.Equal(m.From, []int{0, 1, 2, 3}) || !bytes.Equal(m.Out[0], m.Out[3]) {
		t.Errorf("got %v, %d, %d", m.From, used, e)
	}
	m, used, e = batch.Mix(servers[0], 0, 2, l, nil)
	if e != api.OK || used != 0 || !slices.Equal(m.From, []int{1, 2, 3, 0}) {
		t.Errorf("got %v, %d, %d", m.From, used, e)
	}
	m, used, e = batch.Mix(servers[0], 0, 2, [][]byte{nil, l[0], nil, l[1]}, []int{0, 5})
	if e != api.OK || used != 1 || !slices.Equal(m.From, []int{3, 1}) {
		t.Errorf("got %v, %d, %d", m.From, used, e)
	}
}

func TestBackWrong(t *testing.T) {
	good := keys(1, 3, 32)
	refused := func(name string, from []int, many int, replies [][]byte) {
		t.Helper()
		if l, e := batch.Back(api.Mix{From: from}, many, replies); e != api.ErrArg || len(l) != 0 {
			t.Errorf("%s: got %v, %d", name, l, e)
		}
	}
	for _, many := range []int{minInt, -1, 65, maxInt} {
		refused("many", nil, many, nil)
		refused("many", []int{0, 1, 2}, many, good)
	}
	for _, from := range [][]int{{0, 1, 5}, {0, -1, 1}, {0, 1, 0}, {4, 4, 4}, {0, 1, maxInt}, {minInt, 1, 2}} {
		refused("from", from, 5, good)
	}
	refused("none", []int{0}, 0, good[:1])
	refused("fewer", []int{0, 1, 2}, 5, good[:2])
	refused("more", []int{0, 1}, 5, good)
	refused("some for none", nil, 5, good)
	refused("none for some", []int{0, 1}, 5, nil)
	for _, n := range []int{0, 31, 33, 64} {
		for at := range 3 {
			replies := keys(1, 3, 32)
			replies[at] = make([]byte, n)
			refused("a reply", []int{0, 1, 2}, 5, replies)
		}
	}
}

func TestBack(t *testing.T) {
	replies := keys(7, 3, 32)
	old := cloned(replies)
	nought := make([]byte, 32)
	// Out and Keys are not looked at.
	m := api.Mix{From: []int{4, 0, 2}, Out: [][]byte{nil}, Keys: keys(1, 9, 3)}
	l, e := batch.Back(m, 5, replies)
	if e != api.OK || !slices.EqualFunc(l, [][]byte{replies[1], nought, replies[2], nought, replies[0]}, bytes.Equal) {
		t.Errorf("got %x, %d", l, e)
	}
	for i := range l {
		l[i][0]++
	}
	if !slices.EqualFunc(replies, old, bytes.Equal) || !slices.Equal(m.From, []int{4, 0, 2}) {
		t.Error("what was handed in is changed")
	}
	if l, e := batch.Back(api.Mix{}, 0, nil); e != api.OK || len(l) != 0 {
		t.Errorf("none: got %x, %d", l, e)
	}
	if l, e := batch.Back(api.Mix{}, 64, nil); e != api.OK || len(l) != 64 || !bytes.Equal(l[63], nought) {
		t.Errorf("64: got %d, %d", len(l), e)
	}
}

// P12.3: each good onion is peeled once, wherever it goes, and its reply comes back to its place.
func TestFollows(t *testing.T) {
	r := rand.New(rand.NewSource(2))
	for hops := 1; hops <= 4; hops++ {
		servers := keys(int64(hops)+40, hops, 32)
		first := onions(servers, 0, 10)
		first[3], first[8] = nil, make([]byte, onion.Len(hops))
		l := first
		var mixes []api.Mix
		var lens []int
		for hop := range hops {
			lens = append(lens, len(l))
			m, _, e := batch.Mix(servers[hop], hop, hops, l, []int{r.Int(), r.Int(), r.Int(), r.Int(), r.Int(), r.Int(), r.Int()})
			if e != api.OK || len(m.Out) != 8 {
				t.Fatalf("%d of %d: got %d, %d", hop, hops, len(m.Out), e)
			}
			mixes = append(mixes, m)
			l = m.Out
		}
		var replies [][]byte
		bodies := map[string]bool{}
		for i, body := range l {
			bodies[string(body)] = true
			replies = append(replies, layer.Reply(mixes[hops-1].Keys[i], 1))
		}
		if len(bodies) != 8 {
			t.Fatalf("%d hops: %d bodies", hops, len(bodies))
		}
		for hop := hops - 1; hop >= 0; hop-- {
			var e api.Errno
			replies, e = batch.Back(mixes[hop], lens[hop], replies)
			if e != api.OK {
				t.Fatalf("%d of %d: got %d", hop, hops, e)
			}
		}
		for i, reply := range replies {
			want := layer.Reply(layer.Key(servers[hops-1], keys(int64(i)+500, hops, 16)[hops-1]), 1)
			if i == 3 || i == 8 {
				want = make([]byte, 32)
			}
			if !bytes.Equal(reply, want) {
				t.Errorf("%d hops, %d: got %x", hops, i, reply)
			}
		}
	}
}
