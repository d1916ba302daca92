package key_test

import (
	"bytes"
	"crypto/hmac"
	"crypto/sha256"
	"reflect"
	"slices"
	"testing"

	"shallot/api"
	"shallot/key"
)

const (
	maxInt = 1<<63 - 1
	minInt = -1 << 63
)

func tag(k []byte, b ...byte) []byte {
	h := hmac.New(sha256.New, k)
	h.Write(b)
	return h.Sum(nil)
}

func small() api.Cfg {
	return api.Cfg{Seed: []byte("seed"), Chain: 2, Standby: 1, Clients: 2, Queue: 3, Close: 10, Long: 50, Again: 5, Window: 4, Round: 1, Seq: 1}
}

func with(change func(*api.Cfg)) api.Cfg {
	c := small()
	change(&c)
	return c
}

var right = []func(*api.Cfg){
	func(c *api.Cfg) {},
	func(c *api.Cfg) { c.Seed = nil },
	func(c *api.Cfg) { c.Seed = make([]byte, 64) },
	func(c *api.Cfg) { c.Chain = 1 },
	func(c *api.Cfg) { c.Chain = 8 },
	func(c *api.Cfg) { c.Standby = 0 },
	func(c *api.Cfg) { c.Standby = 8 },
	func(c *api.Cfg) { c.Clients = 1 },
	func(c *api.Cfg) { c.Clients = 8 },
	func(c *api.Cfg) { c.Queue = 1 },
	func(c *api.Cfg) { c.Queue = 64 },
	func(c *api.Cfg) { c.Close = 1 },
	func(c *api.Cfg) { c.Close, c.Long = 9999, 10000 },
	func(c *api.Cfg) { c.Close, c.Long = 1, 2 },
	func(c *api.Cfg) { c.Long = 10000 },
	func(c *api.Cfg) { c.Long = 11 },
	func(c *api.Cfg) { c.Again = 1 },
	func(c *api.Cfg) { c.Again = 10000 },
	func(c *api.Cfg) { c.Window = 1 },
	func(c *api.Cfg) { c.Window = 64 },
	func(c *api.Cfg) { c.Round = api.MaxNumber },
	func(c *api.Cfg) { c.Seq = api.MaxNumber },
}

var wrong = []func(*api.Cfg){
	func(c *api.Cfg) { *c = api.Cfg{} },
	func(c *api.Cfg) { c.Seed = make([]byte, 65) },
	func(c *api.Cfg) { c.Chain = 0 },
	func(c *api.Cfg) { c.Chain = -1 },
	func(c *api.Cfg) { c.Chain = 9 },
	func(c *api.Cfg) { c.Chain = maxInt },
	func(c *api.Cfg) { c.Standby = -1 },
	func(c *api.Cfg) { c.Standby = 9 },
	func(c *api.Cfg) { c.Standby = minInt },
	func(c *api.Cfg) { c.Clients = 0 },
	func(c *api.Cfg) { c.Clients = 9 },
	func(c *api.Cfg) { c.Clients = maxInt },
	func(c *api.Cfg) { c.Queue = 0 },
	func(c *api.Cfg) { c.Queue = 65 },
	func(c *api.Cfg) { c.Close = 0 },
	func(c *api.Cfg) { c.Close, c.Long = 10000, 10000 },
	func(c *api.Cfg) { c.Close, c.Long = 10000, 10001 },
	func(c *api.Cfg) { c.Close, c.Long = 10001, 10002 },
	func(c *api.Cfg) { c.Long = 10 },
	func(c *api.Cfg) { c.Long = 9 },
	func(c *api.Cfg) { c.Long = 10001 },
	func(c *api.Cfg) { c.Long = minInt },
	func(c *api.Cfg) { c.Again = 0 },
	func(c *api.Cfg) { c.Again = 10001 },
	func(c *api.Cfg) { c.Window = 0 },
	func(c *api.Cfg) { c.Window = 65 },
	func(c *api.Cfg) { c.Round = 0 },
	func(c *api.Cfg) { c.Seq = 0 },
}

func TestCheck(t *testing.T) {
	for i, change := range right {
		if e := key.Check(with(change)); e != api.OK {
			t.Errorf("right %d: got %d", i, e)
		}
	}
	for i, change := range wrong {
		if e := key.Check(with(change)); e != api.ErrArg {
			t.Errorf("wrong %d: got %d", i, e)
		}
	}
}

func TestFirst(t *testing.T) {
	for i, change := range right {
		c := with(change)
		want := api.Stamp{Epoch: 1, Round: c.Round}
		for n := 1; n <= c.Chain; n++ {
			want.Chain = append(want.Chain, n)
		}
		s := key.First(c)
		if !reflect.DeepEqual(s, want) {
			t.Errorf("right %d: got %v", i, s)
		}
		s.Chain[0] = 7
		if !reflect.DeepEqual(key.First(c), want) {
			t.Errorf("right %d: something is kept", i)
		}
	}
	for i, change := range wrong {
		if s := key.First(with(change)); !reflect.DeepEqual(s, api.Stamp{}) {
			t.Errorf("wrong %d: got %v", i, s)
		}
	}
}

func TestNodes(t *testing.T) {
	for _, x := range [][3]int{{1, 0, 1}, {2, 1, 2}, {8, 8, 8}, {3, 0, 8}, {1, 8, 1}} {
		c := with(func(c *api.Cfg) { c.Chain, c.Standby, c.Clients = x[0], x[1], x[2] })
		servers := x[0] + x[1]
		all := 1 + servers + x[2]
		if n := key.Nodes(c); n != all {
			t.Errorf("%v: got %d", x, n)
		}
		for _, n := range []int{minInt, -1, 0, 1, 2, servers - 1, servers, servers + 1, servers + 2, all - 1, all, all + 1, 256, maxInt} {
			if got := key.Server(c, n); got != (n >= 1 && n <= servers) {
				t.Errorf("%v, server %d: got %t", x, n, got)
			}
			who, ok := key.Client(c, n)
			is := n > servers && n < all
			if ok != is || is && who != n-servers-1 || !is && who != 0 {
				t.Errorf("%v, client's node %d: got %d, %t", x, n, who, ok)
			}
			want := -1
			if n >= 0 && n < x[2] {
				want = servers + 1 + n
			}
			if got := key.Node(c, n); got != want {
				t.Errorf("%v, client %d: got %d", x, n, got)
			}
		}
	}
}

func TestKeys(t *testing.T) {
	for _, seed := range [][]byte{nil, []byte("seed"), bytes.Repeat([]byte{7}, 64)} {
		c := with(func(c *api.Cfg) { c.Seed = seed })
		old := slices.Clone(seed)
		for _, a := range []int{0, 1, 2, 5, 24, 255, 256, 257, -1, maxInt, minInt} {
			if k := key.Onion(c, a); !bytes.Equal(k, tag(seed, 2, byte(a))) {
				t.Errorf("onion %d: got %x", a, k)
			}
			k := key.Secret(c, a)
			if !bytes.Equal(k, tag(seed, 3, byte(a))) {
				t.Errorf("secret %d: got %x", a, k)
			}
			k[0]++
			for _, b := range []int{0, 1, 3, 24, 256, -2, minInt} {
				if k := key.Pair(c, a, b); !bytes.Equal(k, tag(seed, 1, byte(min(a, b)), byte(max(a, b)))) {
					t.Errorf("pair %d, %d: got %x", a, b, k)
				}
			}
		}
		if !bytes.Equal(seed, old) {
			t.Error("the seed is changed")
		}
	}
}

// Of whatever configurations the calls end.
func TestEnds(t *testing.T) {
	for _, change := range wrong {
		c := with(change)
		for _, n := range []int{minInt, -1, 0, 1, maxInt} {
			key.Nodes(c)
			key.Server(c, n)
			key.Client(c, n)
			key.Node(c, n)
			key.Pair(c, n, 1)
			key.Onion(c, n)
			key.Secret(c, n)
		}
	}
}

// P7.4: a pair's key does not hang on who is named first; clients and their nodes tell each other.
func TestFollows(t *testing.T) {
	c := with(func(c *api.Cfg) { c.Chain, c.Standby, c.Clients = 8, 8, 8 })
	met := map[string]bool{}
	for a := range key.Nodes(c) {
		for b := range a {
			k := key.Pair(c, a, b)
			if !bytes.Equal(k, key.Pair(c, b, a)) {
				t.Errorf("%d, %d: not the same the other way round", a, b)
			}
			if met[string(k)] {
				t.Errorf("%d, %d: another pair has that key", a, b)
			}
			met[string(k)] = true
		}
		who, ok := key.Client(c, a)
		if ok && key.Node(c, who) != a {
			t.Errorf("node %d: got client %d", a, who)
		}
		if ok == (key.Server(c, a) || a == 0) {
			t.Errorf("node %d: is two things, or none", a)
		}
	}
	for who := range 8 {
		if got, ok := key.Client(c, key.Node(c, who)); got != who || !ok {
			t.Errorf("client %d: got %d, %t", who, got, ok)
		}
	}
	if key.Node(small(), 0) != 4 || key.Node(small(), 1) != 5 {
		t.Error("the example")
	}
}
