package layer_test

import (
	"bytes"
	"crypto/hmac"
	"crypto/sha256"
	"encoding/binary"
	"math/rand"
	"slices"
	"testing"

	"shallot/api"
	"shallot/layer"
)

func some(seed int64, n int) []byte {
	b := make([]byte, n)
	rand.New(rand.NewSource(seed)).Read(b)
	return b
}

func tag(k []byte, b ...byte) []byte {
	h := hmac.New(sha256.New, k)
	h.Write(b)
	return h.Sum(nil)
}

func stream(k []byte, n int) []byte {
	var out []byte
	for i := uint64(0); len(out) < n; i++ {
		s := sha256.Sum256(binary.BigEndian.AppendUint64(slices.Clone(k), i))
		out = append(out, s[:]...)
	}
	return out[:n]
}

// sealed is worked out from the words of the chapter, by the library's hashes.
func sealed(server, nonce, plain []byte) []byte {
	k := tag(server, nonce...)
	out := slices.Clone(nonce)
	for i, x := range stream(tag(k, 1), len(plain)) {
		out = append(out, plain[i]^x)
	}
	return append(out, tag(tag(k, 3), out...)...)
}

var server = []byte("the server's key")

func TestKeyReply(t *testing.T) {
	for _, n := range []int{0, 1, 15, 16, 17, 100} {
		nonce := some(int64(n), n)
		k := layer.Key(server, nonce)
		if !bytes.Equal(k, tag(server, nonce...)) {
			t.Errorf("a nonce of %d: got %x", n, k)
		}
		for _, code := range []uint8{0, 1, 2, 4, 255} {
			if r := layer.Reply(k, code); !bytes.Equal(r, tag(k, 4, code)) {
				t.Errorf("code %d: got %x", code, r)
			}
		}
	}
	if !bytes.Equal(layer.Key(nil, nil), tag(nil)) || !bytes.Equal(layer.Reply(nil, 1), tag(nil, 4, 1)) {
		t.Error("nil")
	}
}

func TestSeal(t *testing.T) {
	for _, n := range []int{0, 1, 15, 17, 32, 1000} {
		for _, many := range []int{0, 5, 2049} {
			if b, e := layer.Seal(server, make([]byte, n), make([]byte, many)); e != api.ErrArg || len(b) != 0 {
				t.Errorf("a nonce of %d: got %x, %d", n, b, e)
			}
		}
	}
	nonce := some(1, 16)
	for _, many := range []int{2049, 3000, 100000} {
		if b, e := layer.Seal(server, nonce, make([]byte, many)); e != api.ErrLong || len(b) != 0 {
			t.Errorf("%d bytes: got %x, %d", many, b, e)
		}
	}
	for _, many := range []int{0, 1, 31, 32, 33, 78, 126, 462, 2047, 2048} {
		plain := some(int64(many), many)
		old, oldNonce := slices.Clone(plain), slices.Clone(nonce)
		b, e := layer.Seal(server, nonce, plain)
		if e != api.OK || !bytes.Equal(b, sealed(server, nonce, plain)) {
			t.Errorf("%d bytes: got %x, %d", many, b, e)
		}
		for i := range b {
			b[i]++
		}
		if !bytes.Equal(plain, old) || !bytes.Equal(nonce, oldNonce) {
			t.Errorf("%d bytes: what was handed in is changed", many)
		}
	}
	room := append(make([]byte, 0, 200), nonce...)
	layer.Seal(server, room, some(2, 20))
	if !bytes.Equal(room[16:200], make([]byte, 184)) {
		t.Error("the room behind the nonce is changed")
	}
}

func TestOpen(t *testing.T) {
	nonce := some(1, 16)
	for _, many := range []int{0, 1, 31, 32, 33, 78, 126, 462, 2047, 2048} {
		plain := some(int64(many), many)
		b := sealed(server, nonce, plain)
		old := slices.Clone(b)
		got, k, e := layer.Open(server, b)
		if e != api.OK || !bytes.Equal(got, plain) || !bytes.Equal(k, tag(server, nonce...)) {
			t.Errorf("%d bytes: got %x, %x, %d", many, got, k, e)
		}
		for i := range got {
			got[i]++
		}
		k[0]++
		if !bytes.Equal(b, old) {
			t.Errorf("%d bytes: what was handed in is changed", many)
		}
	}
}

func TestOpenWrong(t *testing.T) {
	nonce := some(1, 16)
	refused := func(name string, server, b []byte, want api.Errno) {
		t.Helper()
		if plain, k, e := layer.Open(server, b); e != want || len(plain) != 0 || len(k) != 0 {
			t.Errorf("%s: got %x, %x, %d", name, plain, k, e)
		}
	}
	for _, n := range []int{0, 1, 16, 32, 47, 2097, 5000} {
		refused("a length", server, make([]byte, n), api.ErrForm)
	}
	refused("nil", server, nil, api.ErrForm)
	refused("a layer around 2049", server, sealed(server, nonce, make([]byte, 2049)), api.ErrForm)
	for _, n := range []int{48, 49, 2096} {
		refused("noughts", server, make([]byte, n), api.ErrTag)
	}
	b := sealed(server, nonce, some(2, 50))
	for i := range b {
		bad := slices.Clone(b)
		bad[i] ^= 16
		refused("a changed byte", server, bad, api.ErrTag)
	}
	refused("another server", []byte("another"), b, api.ErrTag)
	refused("cut", server, b[:len(b)-1], api.ErrTag)
	refused("longer", server, append(slices.Clone(b), 0), api.ErrTag)
	refused("short of a tag", server, b[:48], api.ErrTag)
}

func TestPad(t *testing.T) {
	k := some(3, 32)
	for _, n := range []int{-1 << 63, -1, 2049, 1 << 20, 1<<63 - 1} {
		if b, e := layer.Pad(k, n); e != api.ErrArg || len(b) != 0 {
			t.Errorf("%d: got %x, %d", n, b, e)
		}
	}
	for _, n := range []int{0, 1, 31, 32, 33, 48, 2047, 2048} {
		if b, e := layer.Pad(k, n); e != api.OK || !bytes.Equal(b, stream(tag(k, 2), n)) {
			t.Errorf("%d: got %x, %d", n, b, e)
		}
	}
}

// P8.5: what was sealed is opened, and is 48 bytes longer; what was opened is sealed so.
func TestFollows(t *testing.T) {
	r := rand.New(rand.NewSource(8))
	for i := range int64(300) {
		nonce, plain, server := some(i, 16), some(i+1000, r.Intn(500)), some(i+2000, r.Intn(90))
		b, e := layer.Seal(server, nonce, plain)
		if e != api.OK || len(b) != len(plain)+api.LayerLen || !bytes.Equal(b[:16], nonce) {
			t.Fatalf("%d: got %x, %d", i, b, e)
		}
		got, k, e := layer.Open(server, b)
		if e != api.OK || !bytes.Equal(got, plain) || !bytes.Equal(k, layer.Key(server, nonce)) {
			t.Fatalf("%d: got %x, %x, %d", i, got, k, e)
		}
		if again, e := layer.Seal(server, b[:16], got); e != api.OK || !bytes.Equal(again, b) {
			t.Fatalf("%d: got %x, %d", i, again, e)
		}
	}
}
