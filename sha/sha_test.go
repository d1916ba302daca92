package sha_test

import (
	"bytes"
	"crypto/sha256"
	"encoding/binary"
	"encoding/hex"
	"math/rand"
	"slices"
	"strings"
	"testing"

	"shallot/api"
	"shallot/sha"
)

var start = [8]uint32{0x6a09e667, 0xbb67ae85, 0x3c6ef372, 0xa54ff53a, 0x510e527f, 0x9b05688c, 0x1f83d9ab, 0x5be0cd19}

func some(seed int64, n int) []byte {
	b := make([]byte, n)
	rand.New(rand.NewSource(seed)).Read(b)
	return b
}

func written(h [8]uint32) []byte {
	var b []byte
	for _, x := range h {
		b = binary.BigEndian.AppendUint32(b, x)
	}
	return b
}

func TestStart(t *testing.T) {
	h := sha.Start()
	if h != start {
		t.Errorf("got %x", h)
	}
	h[0] = 0
	if sha.Start() != start {
		t.Error("the start was changed from outside")
	}
}

func TestPad(t *testing.T) {
	for n := range 200 {
		b := some(int64(n), n)
		old := slices.Clone(b)
		p := sha.Pad(b)
		whole := (n + 9 + 63) / 64 * 64
		want := append(slices.Clone(b), 128)
		want = append(want, make([]byte, whole-n-9)...)
		want = binary.BigEndian.AppendUint64(want, uint64(n)*8)
		if !bytes.Equal(p, want) {
			t.Fatalf("%d bytes: got %x", n, p)
		}
		for i := range p {
			p[i]++
		}
		if !bytes.Equal(b, old) {
			t.Fatalf("%d bytes: what was handed in is changed", n)
		}
	}
	if p := sha.Pad(nil); len(p) != 64 || p[0] != 128 || !bytes.Equal(p[1:], make([]byte, 63)) {
		t.Errorf("nil: got %x", p)
	}
	if p := sha.Pad(make([]byte, 1<<16)); hex.EncodeToString(p[len(p)-8:]) != "0000000000080000" {
		t.Errorf("2^16 bytes: got %x", p[len(p)-8:])
	}
	// What is padded has no room that it shares with what was handed in.
	room := make([]byte, 3, 64)
	sha.Pad(room)
	if !bytes.Equal(room[:64], make([]byte, 64)) {
		t.Error("the room behind what was handed in is changed")
	}
}

func TestBlock(t *testing.T) {
	for _, n := range []int{0, 1, 63, 65, 128} {
		if h, e := sha.Block(start, make([]byte, n)); e != api.ErrArg || h != [8]uint32{} {
			t.Errorf("%d bytes: got %x, %d", n, h, e)
		}
	}
	if h, e := sha.Block(start, nil); e != api.ErrArg || h != [8]uint32{} {
		t.Errorf("nil: got %x, %d", h, e)
	}
	b := sha.Pad([]byte("abc"))
	old := slices.Clone(b)
	h, e := sha.Block(start, b)
	if e != api.OK || hex.EncodeToString(written(h)) != "ba7816bf8f01cfea414140de5dae2223b00361a396177a9cb410ff61f20015ad" {
		t.Errorf("abc: got %x, %d", h, e)
	}
	if !bytes.Equal(b, old) {
		t.Error("what was handed in is changed")
	}
}

// From words other than the start: what a second block comes to.
func TestBlockAfterBlock(t *testing.T) {
	for seed := range int64(50) {
		b := some(seed, 64*3)
		h := start
		for i := range 3 {
			var e api.Errno
			if h, e = sha.Block(h, b[64*i:64*i+64]); e != api.OK {
				t.Fatalf("got %d", e)
			}
		}
		h, _ = sha.Block(h, sha.Pad(b)[192:])
		if w := sha256.Sum256(b); !bytes.Equal(written(h), w[:]) {
			t.Fatalf("%d: got %x", seed, h)
		}
	}
}

func TestSum(t *testing.T) {
	for _, x := range []struct{ text, want string }{
		{"", "e3b0c44298fc1c149afbf4c8996fb92427ae41e4649b934ca495991b7852b855"},
		{"abc", "ba7816bf8f01cfea414140de5dae2223b00361a396177a9cb410ff61f20015ad"},
		{"abcdbcdecdefdefgefghfghighijhijkijkljklmklmnlmnomnopnopq", "248d6a61d20638b8e5c026930c3e6039a33ce45964ff2167f6ecedd419db06c1"},
		{strings.Repeat("a", 1000000), "cdc76e5c9914fb9281a1c7e284d73e67f1809a48a497200e046d39ccc7112cd0"},
	} {
		if s := hex.EncodeToString(sha.Sum([]byte(x.text))); s != x.want {
			t.Errorf("%.10s: got %s", x.text, s)
		}
	}
	if !bytes.Equal(sha.Sum(nil), sha.Sum([]byte{})) {
		t.Error("nil and empty are not the same")
	}
	for n := range 300 {
		b := some(int64(n), n)
		old := slices.Clone(b)
		s := sha.Sum(b)
		if w := sha256.Sum256(b); !bytes.Equal(s, w[:]) {
			t.Fatalf("%d bytes: got %x", n, s)
		}
		s[0]++
		if w := sha256.Sum256(b); !bytes.Equal(sha.Sum(b), w[:]) || !bytes.Equal(b, old) {
			t.Fatalf("%d bytes: something is shared", n)
		}
	}
}

// P1.4: whole blocks come to the same, whatever stands behind them.
func TestWholeBlocks(t *testing.T) {
	first := some(1, 128)
	want := start
	want, _ = sha.Block(want, first[:64])
	want, _ = sha.Block(want, first[64:])
	for n := range 70 {
		b := append(slices.Clone(first), some(int64(n)+2, n)...)
		h := want
		for rest := sha.Pad(b)[128:]; len(rest) > 0; rest = rest[64:] {
			h, _ = sha.Block(h, rest[:64])
		}
		if !bytes.Equal(sha.Sum(b), written(h)) {
			t.Fatalf("%d bytes behind: got %x", n, sha.Sum(b))
		}
	}
}
