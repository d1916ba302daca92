package onion_test

import (
	"bytes"
	"crypto/hmac"
	"crypto/sha256"
	"encoding/binary"
	"math/rand"
	"slices"
	"testing"

	"shallot/api"
	"shallot/layer"
	"shallot/onion"
)

const maxInt = 1<<63 - 1

func some(seed int64, n int) []byte {
	b := make([]byte, n)
	rand.New(rand.NewSource(seed)).Read(b)
	return b
}

func tag(k []byte, b ...byte) []byte {
	h := hmac.New(sha256.New, k)
	h.Write(b)
	return h.Sum(nil)
}

func keys(seed int64, many, long int) [][]byte {
	var out [][]byte
	for i := range many {
		out = append(out, some(seed*100+int64(i), long))
	}
	return out
}

func TestLen(t *testing.T) {
	for hops, want := range map[int]int{1: 126, 2: 174, 3: 222, 7: 414, 8: 462, 0: 0, 9: 0, -1: 0, maxInt: 0, -maxInt - 1: 0} {
		if n := onion.Len(hops); n != want {
			t.Errorf("%d hops: got %d", hops, n)
		}
	}
}

func TestNonces(t *testing.T) {
	for _, chain := range [][]int{nil, {}, {0}, {17}, {1, 1}, {1, 2, 3, 4, 5, 6, 7, 8, 9}} {
		if l, e := onion.Nonces([]byte("secret"), api.Stamp{Epoch: 1, Round: 1, Chain: chain}); e != api.ErrArg || len(l) != 0 {
			t.Errorf("%v: got %x, %d", chain, l, e)
		}
	}
	for _, chain := range [][]int{{1}, {3, 1}, {16, 2, 9}, {8, 7, 6, 5, 4, 3, 2, 1}} {
		for _, secret := range [][]byte{nil, []byte("secret"), some(1, 80)} {
			s := api.Stamp{Epoch: 5, Round: 1 << 40, Chain: chain}
			said := binary.BigEndian.AppendUint64(nil, s.Epoch)
			said = binary.BigEndian.AppendUint64(said, s.Round)
			said = append(said, byte(len(chain)))
			for _, n := range chain {
				said = append(said, byte(n))
			}
			l, e := onion.Nonces(secret, s)
			if e != api.OK || len(l) != len(chain) {
				t.Fatalf("%v: got %x, %d", chain, l, e)
			}
			for i, nonce := range l {
				if !bytes.Equal(nonce, tag(secret, append(slices.Clone(said), byte(i))...)[:16]) {
					t.Errorf("%v, %d: got %x", chain, i, nonce)
				}
			}
		}
	}
}

func TestWrapWrong(t *testing.T) {
	body := some(1, 78)
	refused := func(name string, servers, nonces [][]byte, body []byte) {
		t.Helper()
		if b, e := onion.Wrap(servers, nonces, body); e != api.ErrArg || len(b) != 0 {
			t.Errorf("%s: got %x, %d", name, b, e)
		}
	}
	refused("none", nil, nil, body)
	refused("nine", keys(1, 9, 32), keys(2, 9, 16), body)
	refused("fewer nonces", keys(1, 3, 32), keys(2, 2, 16), body)
	refused("more nonces", keys(1, 3, 32), keys(2, 4, 16), body)
	refused("no nonces", keys(1, 1, 32), nil, body)
	for _, n := range []int{0, 1, 77, 79, 126} {
		refused("a body", keys(1, 2, 32), keys(2, 2, 16), make([]byte, n))
	}
	for at := range 3 {
		for _, n := range []int{0, 15, 17, 32} {
			nonces := keys(2, 3, 16)
			nonces[at] = make([]byte, n)
			refused("a nonce", keys(1, 3, 32), nonces, body)
		}
	}
}

func TestWrap(t *testing.T) {
	for hops := 1; hops <= 8; hops++ {
		servers, nonces, body := keys(1, hops, 32), keys(2, hops, 16), some(3, 78)
		want := slices.Clone(body)
		for i := hops - 1; i >= 0; i-- {
			want, _ = layer.Seal(servers[i], nonces[i], want)
		}
		b, e := onion.Wrap(servers, nonces, body)
		if e != api.OK || !bytes.Equal(b, want) || len(b) != onion.Len(hops) {
			t.Errorf("%d hops: got %x, %d", hops, b, e)
		}
		b[0]++
		if !bytes.Equal(body, some(3, 78)) || !slices.EqualFunc(servers, keys(1, hops, 32), bytes.Equal) || !slices.EqualFunc(nonces, keys(2, hops, 16), bytes.Equal) {
			t.Errorf("%d hops: what was handed in is changed", hops)
		}
	}
	// Keys may be of whatever length.
	if b, e := onion.Wrap([][]byte{nil, some(1, 100)}, keys(2, 2, 16), make([]byte, 78)); e != api.OK || len(b) != 174 {
		t.Errorf("got %x, %d", b, e)
	}
}

func TestPeelWrong(t *testing.T) {
	servers, nonces := keys(1, 3, 32), keys(2, 3, 16)
	good, _ := onion.Wrap(servers, nonces, make([]byte, 78))
	refused := func(name string, server []byte, hop, hops int, b []byte, want api.Errno) {
		t.Helper()
		if out, k, e := onion.Peel(server, hop, hops, b); e != want || len(out) != 0 || len(k) != 0 {
			t.Errorf("%s: got %x, %x, %d", name, out, k, e)
		}
	}
	for _, x := range [][2]int{{0, 0}, {0, 9}, {0, -1}, {-1, 3}, {3, 3}, {4, 3}, {maxInt, 3}, {-maxInt - 1, 3}, {0, maxInt}, {2, 2}} {
		refused("hops", servers[0], x[0], x[1], good, api.ErrArg)
	}
	for _, hops := range []int{-1, 0, 9, 10, maxInt} {
		for _, hop := range []int{-1, 0, 1, 8} {
			refused("no bytes", servers[0], hop, hops, nil, api.ErrArg)
		}
	}
	refused("nine hops", servers[0], 0, 9, make([]byte, 78+9*48), api.ErrArg)
	for _, n := range []int{0, 1, 78, 126, 174, 221} {
		refused("cut", servers[0], 0, 3, good[:n], api.ErrArg)
	}
	refused("longer", servers[0], 0, 3, append(slices.Clone(good), 0), api.ErrArg)
	refused("another one's", servers[1], 0, 3, good, api.ErrTag)
	refused("at another hop", servers[0], 1, 3, good, api.ErrTag)
	refused("noughts", servers[0], 0, 3, make([]byte, 222), api.ErrTag)
	for i := range good {
		bad := slices.Clone(good)
		bad[i] ^= 1
		refused("changed", servers[0], 0, 3, bad, api.ErrTag)
	}
}

func TestPeel(t *testing.T) {
	for hops := 1; hops <= 8; hops++ {
		for hop := range hops {
			server, nonce := some(1, 32), some(2, 16)
			plain := some(3, 78+48*(hops-hop-1))
			part, _ := layer.Seal(server, nonce, plain)
			// What stands behind a hop's part does not matter.
			b := append(part, some(int64(hop), 48*hop)...)
			old := slices.Clone(b)
			out, k, e := onion.Peel(server, hop, hops, b)
			want := slices.Clone(plain)
			if hop != hops-1 {
				pad, _ := layer.Pad(layer.Key(server, nonce), 48*(hop+1))
				want = append(want, pad...)
			}
			if e != api.OK || !bytes.Equal(out, want) || !bytes.Equal(k, layer.Key(server, nonce)) {
				t.Errorf("%d of %d: got %x, %x, %d", hop, hops, out, k, e)
			}
			out[0]++
			k[0]++
			if !bytes.Equal(b, old) {
				t.Errorf("%d of %d: what was handed in is changed", hop, hops)
			}
		}
	}
}

// P9.4: peeled by all servers, in order, an onion is its body; it has as many bytes at each hop.
func TestFollows(t *testing.T) {
	for hops := 1; hops <= 8; hops++ {
		for seed := range int64(5) {
			servers, nonces, body := keys(seed+10, hops, 32), keys(seed+20, hops, 16), some(seed, 78)
			b, e := onion.Wrap(servers, nonces, body)
			if e != api.OK {
				t.Fatalf("%d hops: got %d", hops, e)
			}
			for hop := range hops {
				if len(b) != onion.Len(hops) {
					t.Fatalf("%d of %d: %d bytes", hop, hops, len(b))
				}
				var k []byte
				b, k, e = onion.Peel(servers[hop], hop, hops, b)
				if e != api.OK || !bytes.Equal(k, layer.Key(servers[hop], nonces[hop])) {
					t.Fatalf("%d of %d: got %x, %d", hop, hops, k, e)
				}
			}
			if !bytes.Equal(b, body) {
				t.Fatalf("%d hops: got %x", hops, b)
			}
		}
	}
}
