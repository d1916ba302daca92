package word_test

import (
	"bytes"
	"encoding/binary"
	"math/rand"
	"slices"
	"testing"

	"shallot/api"
	"shallot/word"
)

const maxInt = 1<<63 - 1

func some(seed int64, n int) []byte {
	b := make([]byte, n)
	rand.New(rand.NewSource(seed)).Read(b)
	return b
}

func TestPut(t *testing.T) {
	for _, x := range []struct {
		n    uint64
		wide int
		want []byte
		e    api.Errno
	}{
		{258, 3, []byte{0, 1, 2}, api.OK},
		{0, 1, []byte{0}, api.OK},
		{255, 1, []byte{255}, api.OK},
		{256, 1, nil, api.ErrLong},
		{256, 2, []byte{1, 0}, api.OK},
		{1<<56 - 1, 7, []byte{255, 255, 255, 255, 255, 255, 255}, api.OK},
		{1 << 56, 7, nil, api.ErrLong},
		{1 << 56, 8, []byte{1, 0, 0, 0, 0, 0, 0, 0}, api.OK},
		{api.MaxNumber, 8, []byte{255, 255, 255, 255, 255, 255, 255, 255}, api.OK},
		{api.MaxNumber, 7, nil, api.ErrLong},
		{0, 8, []byte{0, 0, 0, 0, 0, 0, 0, 0}, api.OK},
		{0, 0, nil, api.ErrArg},
		{0, 9, nil, api.ErrArg},
		{0, -1, nil, api.ErrArg},
		{api.MaxNumber, 0, nil, api.ErrArg},
		{1, maxInt, nil, api.ErrArg},
		{1, -maxInt - 1, nil, api.ErrArg},
	} {
		if b, e := word.Put(x.n, x.wide); e != x.e || !bytes.Equal(b, x.want) {
			t.Errorf("%d in %d: got %x, %d", x.n, x.wide, b, e)
		}
	}
	for wide := 1; wide < 8; wide++ {
		over := uint64(1) << (8 * wide)
		if b, e := word.Put(over, wide); e != api.ErrLong || len(b) != 0 {
			t.Errorf("too much for %d: got %x, %d", wide, b, e)
		}
		if b, e := word.Put(over-1, wide); e != api.OK || !bytes.Equal(b, bytes.Repeat([]byte{255}, wide)) {
			t.Errorf("just enough for %d: got %x, %d", wide, b, e)
		}
	}
}

func TestGet(t *testing.T) {
	for _, b := range [][]byte{nil, {}, make([]byte, 9), make([]byte, 300)} {
		if n, e := word.Get(b); e != api.ErrArg || n != 0 {
			t.Errorf("%d bytes: got %d, %d", len(b), n, e)
		}
	}
	for wide := 1; wide <= 8; wide++ {
		b := some(int64(wide), wide)
		old := slices.Clone(b)
		want := binary.BigEndian.Uint64(append(make([]byte, 8-wide), b...))
		if n, e := word.Get(b); e != api.OK || n != want || !bytes.Equal(b, old) {
			t.Errorf("%x: got %d, %d", b, n, e)
		}
	}
	if n, e := word.Get(bytes.Repeat([]byte{255}, 8)); e != api.OK || n != api.MaxNumber {
		t.Errorf("got %d, %d", n, e)
	}
}

func TestFill(t *testing.T) {
	for _, x := range []struct {
		text []byte
		wide int
		want []byte
		e    api.Errno
	}{
		{[]byte("ab"), 4, []byte{2, 97, 98, 0, 0}, api.OK},
		{nil, 1, []byte{0, 0}, api.OK},
		{[]byte("a"), 1, []byte{1, 97}, api.OK},
		{[]byte("ab"), 1, nil, api.ErrLong},
		{[]byte("abc"), 3, []byte{3, 97, 98, 99}, api.OK},
		{[]byte{0, 0}, 3, []byte{2, 0, 0, 0}, api.OK},
		{[]byte("ab"), 0, nil, api.ErrArg},
		{nil, 0, nil, api.ErrArg},
		{nil, -1, nil, api.ErrArg},
		{nil, 256, nil, api.ErrArg},
		{make([]byte, 300), 256, nil, api.ErrArg},
		{make([]byte, 256), 255, nil, api.ErrLong},
		{nil, maxInt, nil, api.ErrArg},
		{nil, -maxInt - 1, nil, api.ErrArg},
	} {
		if b, e := word.Fill(x.text, x.wide); e != x.e || !bytes.Equal(b, x.want) {
			t.Errorf("%x to %d: got %x, %d", x.text, x.wide, b, e)
		}
	}
	text := some(1, 255)
	old := slices.Clone(text)
	b, e := word.Fill(text, 255)
	if e != api.OK || len(b) != 256 || b[0] != 255 || !bytes.Equal(b[1:], text) {
		t.Errorf("255: got %x, %d", b, e)
	}
	b[1]++
	if !bytes.Equal(text, old) {
		t.Error("what was handed in is changed")
	}
	room := append(make([]byte, 0, 8), 1, 2, 3, 4)[:2]
	word.Fill(room, 4)
	if !bytes.Equal(room[:4], []byte{1, 2, 3, 4}) {
		t.Error("the room behind the text is changed")
	}
}

func TestUnfill(t *testing.T) {
	for _, x := range []struct {
		b, want []byte
		e       api.Errno
	}{
		{[]byte{2, 97, 98, 0, 0}, []byte("ab"), api.OK},
		{[]byte{0, 0}, nil, api.OK},
		{[]byte{1, 5}, []byte{5}, api.OK},
		{[]byte{1, 0}, []byte{0}, api.OK},
		{[]byte{2, 0, 0, 0}, []byte{0, 0}, api.OK},
		{[]byte{2, 5}, nil, api.ErrForm},
		{[]byte{255, 5}, nil, api.ErrForm},
		{[]byte{0, 1}, nil, api.ErrForm},
		{[]byte{2, 97, 98, 0, 1}, nil, api.ErrForm},
		{[]byte{2, 97, 98, 1, 0}, nil, api.ErrForm},
		{[]byte{3, 97, 98}, nil, api.ErrForm},
		{nil, nil, api.ErrArg},
		{[]byte{}, nil, api.ErrArg},
		{[]byte{0}, nil, api.ErrArg},
		{[]byte{1}, nil, api.ErrArg},
		{make([]byte, 257), nil, api.ErrArg},
		{make([]byte, 256), nil, api.OK},
		{append([]byte{255}, some(3, 255)...), some(3, 255), api.OK},
		{append([]byte{255}, some(3, 254)...), nil, api.ErrForm},
		{append([]byte{255}, some(3, 256)...), nil, api.ErrArg},
	} {
		if b, e := word.Unfill(x.b); e != x.e || !bytes.Equal(b, x.want) {
			t.Errorf("%x: got %x, %d", x.b, b, e)
		}
	}
	b := []byte{2, 97, 98, 0, 0}
	text, _ := word.Unfill(b)
	text[0] = 1
	b[2] = 9
	if !bytes.Equal(b, []byte{2, 97, 9, 0, 0}) || !bytes.Equal(text, []byte{1, 98}) {
		t.Errorf("something is shared: %x, %x", b, text)
	}
	_ = append(text, 7)
	if b[3] != 0 {
		t.Error("room is shared")
	}
}

// P3.3: what was put is got again, and the other way round; the greater number has the greater bytes.
func TestFollows(t *testing.T) {
	r := rand.New(rand.NewSource(5))
	for range 3000 {
		wide := 1 + r.Intn(8)
		n, m := r.Uint64()>>(64-8*wide), r.Uint64()>>(64-8*wide)
		a, e := word.Put(n, wide)
		b, f := word.Put(m, wide)
		if e != api.OK || f != api.OK || len(a) != wide {
			t.Fatalf("%d, %d in %d: got %d, %d", n, m, wide, e, f)
		}
		if got, e := word.Get(a); got != n || e != api.OK {
			t.Fatalf("%d in %d: got %d, %d", n, wide, got, e)
		}
		if (n < m) != (bytes.Compare(a, b) < 0) {
			t.Fatalf("%d, %d in %d: got %x, %x", n, m, wide, a, b)
		}
		bs := some(int64(n), wide)
		got, _ := word.Get(bs)
		if back, e := word.Put(got, wide); e != api.OK || !bytes.Equal(back, bs) {
			t.Fatalf("%x: got %x, %d", bs, back, e)
		}
	}
	for wide := 1; wide <= 255; wide++ {
		for _, many := range []int{0, 1, wide / 2, wide - 1, wide} {
			text := some(int64(wide), many)
			b, e := word.Fill(text, wide)
			if e != api.OK || len(b) != 1+wide {
				t.Fatalf("%d to %d: got %x, %d", many, wide, b, e)
			}
			got, e := word.Unfill(b)
			if e != api.OK || !bytes.Equal(got, text) {
				t.Fatalf("%d to %d: got %x, %d", many, wide, got, e)
			}
			if again, e := word.Fill(got, wide); e != api.OK || !bytes.Equal(again, b) {
				t.Fatalf("%d to %d: got %x, %d", many, wide, again, e)
			}
		}
	}
}
