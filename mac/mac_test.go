package mac_test

import (
	"bytes"
	"crypto/hmac"
	"crypto/sha256"
	"encoding/binary"
	"encoding/hex"
	"math/rand"
	"slices"
	"testing"

	"shallot/api"
	"shallot/mac"
)

func some(seed int64, n int) []byte {
	b := make([]byte, n)
	rand.New(rand.NewSource(seed)).Read(b)
	return b
}

func hmacOf(key, b []byte) []byte {
	h := hmac.New(sha256.New, key)
	h.Write(b)
	return h.Sum(nil)
}

func streamOf(key []byte, n int) []byte {
	var out []byte
	for i := uint64(0); len(out) < n; i++ {
		s := sha256.Sum256(binary.BigEndian.AppendUint64(slices.Clone(key), i))
		out = append(out, s[:]...)
	}
	return out[:n]
}

func TestTag(t *testing.T) {
	if s := hex.EncodeToString(mac.Tag([]byte("Jefe"), []byte("what do ya want for nothing?"))); s != "5bdcc146bf60754e6a042426089575c75a003f089d2739839dec58b964ec3843" {
		t.Errorf("got %s", s)
	}
	for _, k := range []int{0, 1, 4, 31, 32, 33, 63, 64, 65, 66, 127, 128, 129, 200} {
		for _, n := range []int{0, 1, 54, 55, 56, 63, 64, 65, 128, 1000} {
			key, b := some(int64(k), k), some(int64(n)+1000, n)
			oldKey, old := slices.Clone(key), slices.Clone(b)
			tag := mac.Tag(key, b)
			if !bytes.Equal(tag, hmacOf(key, b)) {
				t.Fatalf("key of %d, %d bytes: got %x", k, n, tag)
			}
			tag[0]++
			if !bytes.Equal(mac.Tag(key, b), hmacOf(oldKey, old)) {
				t.Fatalf("key of %d, %d bytes: something is shared", k, n)
			}
		}
	}
	if !bytes.Equal(mac.Tag(nil, nil), hmacOf(nil, nil)) {
		t.Error("nil")
	}
}

func TestCheck(t *testing.T) {
	for _, k := range []int{0, 20, 64, 65} {
		key, b := some(int64(k), k), some(77, 99)
		tag := hmacOf(key, b)
		if e := mac.Check(key, b, tag); e != api.OK {
			t.Errorf("the right tag: got %d", e)
		}
		for i := range tag {
			for _, x := range []byte{1, 128} {
				bad := slices.Clone(tag)
				bad[i] ^= x
				if e := mac.Check(key, b, bad); e != api.ErrTag {
					t.Errorf("wrong at %d: got %d", i, e)
				}
			}
		}
		for _, bad := range [][]byte{nil, {}, tag[:1], tag[:31], append(slices.Clone(tag), 0), append(slices.Clone(tag), tag...)} {
			if e := mac.Check(key, b, bad); e != api.ErrTag {
				t.Errorf("%d bytes of a tag: got %d", len(bad), e)
			}
		}
		if e := mac.Check(append(slices.Clone(key), 1), b, tag); e != api.ErrTag {
			t.Errorf("another key: got %d", e)
		}
		if e := mac.Check(key, b[1:], tag); e != api.ErrTag {
			t.Errorf("other bytes: got %d", e)
		}
	}
}

func TestStream(t *testing.T) {
	for _, n := range []int{-1 << 63, -1, 1<<20 + 1, 1<<63 - 1} {
		if b, e := mac.Stream([]byte("key"), n); e != api.ErrArg || len(b) != 0 {
			t.Errorf("%d: got %d bytes, %d", n, len(b), e)
		}
	}
	for _, k := range []int{0, 1, 32, 64, 65, 100} {
		for _, n := range []int{0, 1, 31, 32, 33, 63, 64, 65, 256, 2048, 32 * 300} {
			key := some(int64(k), k)
			old := slices.Clone(key)
			b, e := mac.Stream(key, n)
			if e != api.OK || !bytes.Equal(b, streamOf(key, n)) {
				t.Fatalf("key of %d, %d bytes: got %x, %d", k, n, b, e)
			}
			for i := range b {
				b[i]++
			}
			if again, _ := mac.Stream(key, n); !bytes.Equal(again, streamOf(old, n)) || !bytes.Equal(key, old) {
				t.Fatalf("key of %d, %d bytes: something is shared", k, n)
			}
		}
	}
	b, e := mac.Stream([]byte("key"), 1<<20)
	if e != api.OK || !bytes.Equal(b, streamOf([]byte("key"), 1<<20)) {
		t.Errorf("2^20: got %d bytes, %d", len(b), e)
	}
	// Room behind a key is not written to.
	room := make([]byte, 4, 64)
	mac.Stream(room, 100)
	if !bytes.Equal(room[:64], make([]byte, 64)) {
		t.Error("the room behind the key is changed")
	}
}

func TestXor(t *testing.T) {
	for _, x := range []struct{ a, b, want []byte }{
		{nil, nil, nil},
		{nil, []byte{}, nil},
		{[]byte{1, 2, 3}, []byte{255, 2, 0}, []byte{254, 0, 3}},
	} {
		if b, e := mac.Xor(x.a, x.b); e != api.OK || !bytes.Equal(b, x.want) {
			t.Errorf("%x, %x: got %x, %d", x.a, x.b, b, e)
		}
	}
	for _, n := range [][2]int{{0, 1}, {1, 0}, {5, 4}, {4, 5}} {
		if b, e := mac.Xor(make([]byte, n[0]), make([]byte, n[1])); e != api.ErrArg || len(b) != 0 {
			t.Errorf("%v: got %x, %d", n, b, e)
		}
	}
	a, b := some(1, 40), some(2, 40)
	oldA, oldB := slices.Clone(a), slices.Clone(b)
	c, _ := mac.Xor(a, b)
	c[0]++
	if !bytes.Equal(a, oldA) || !bytes.Equal(b, oldB) {
		t.Error("what was handed in is changed")
	}
}

// P2.4: a shorter stream is a longer one's beginning; xor with the same bytes twice is nothing.
func TestFollows(t *testing.T) {
	long, _ := mac.Stream([]byte("long"), 400)
	for n := range 400 {
		b, e := mac.Stream([]byte("long"), n)
		if e != api.OK || !bytes.Equal(b, long[:n]) {
			t.Fatalf("%d: got %x, %d", n, b, e)
		}
		plain := some(int64(n), n)
		once, _ := mac.Xor(plain, b)
		twice, _ := mac.Xor(once, b)
		if !bytes.Equal(twice, plain) {
			t.Fatalf("%d: got %x", n, twice)
		}
	}
}
