package letter_test

import (
	"bytes"
	"encoding/binary"
	"math/rand"
	"reflect"
	"slices"
	"testing"

	"shallot/api"
	"shallot/letter"
)

const maxInt = 1<<63 - 1

var right = []api.Letter{
	{Cover: true},
	{Cover: true, Text: []byte{}},
	{Seq: 1},
	{From: 7, To: 7, Seq: 1},
	{From: 0, To: 2, Seq: 1, Text: []byte("hi")},
	{From: 3, To: 0, Seq: api.MaxNumber, Text: bytes.Repeat([]byte{255}, 64)},
	{From: 1, To: 1, Seq: 1 << 32, Text: make([]byte, 64)},
	{From: 5, To: 6, Seq: 258, Text: []byte{0}},
}

var wrong = []api.Letter{
	{},
	{Cover: true, From: 1},
	{Cover: true, To: 1},
	{Cover: true, To: -1},
	{Cover: true, Seq: 1},
	{Cover: true, Text: []byte{0}},
	{Cover: true, Text: make([]byte, 65)},
	{Cover: true, From: 1, To: 2, Seq: 3, Text: []byte("hi")},
	{From: -1, Seq: 1},
	{From: 8, Seq: 1},
	{From: 256, Seq: 1},
	{From: maxInt, Seq: 1},
	{To: -1, Seq: 1},
	{To: 8, Seq: 1},
	{To: 65536, Seq: 1},
	{To: -maxInt - 1, Seq: 1},
	{From: 1, To: 2},
	{From: 1, To: 2, Text: make([]byte, 65)},
	{From: 8, To: 2, Seq: 1, Text: make([]byte, 65)},
	{From: 1, To: 8, Seq: 1, Text: make([]byte, 65)},
}

var long = []api.Letter{
	{Seq: 1, Text: make([]byte, 65)},
	{From: 7, To: 7, Seq: api.MaxNumber, Text: make([]byte, 300)},
}

func written(l api.Letter) []byte {
	if l.Cover {
		return make([]byte, 78)
	}
	b := binary.BigEndian.AppendUint16([]byte{1}, uint16(l.From))
	b = binary.BigEndian.AppendUint16(b, uint16(l.To))
	b = binary.BigEndian.AppendUint64(b, l.Seq)
	b = append(append(b, byte(len(l.Text))), l.Text...)
	return append(b, make([]byte, 78-len(b))...)
}

func TestCheck(t *testing.T) {
	for i, l := range right {
		if e := letter.Check(l); e != api.OK {
			t.Errorf("right %d: got %d", i, e)
		}
	}
	for i, l := range wrong {
		if e := letter.Check(l); e != api.ErrArg {
			t.Errorf("wrong %d: got %d", i, e)
		}
	}
	for i, l := range long {
		if e := letter.Check(l); e != api.ErrLong {
			t.Errorf("long %d: got %d", i, e)
		}
	}
}

func TestSame(t *testing.T) {
	all := slices.Concat(right[1:], wrong, long)
	for i, l := range all {
		for j, m := range all {
			if got := letter.Same(l, m); got != (i == j) {
				t.Errorf("%v, %v: got %t", l, m, got)
			}
		}
	}
	if !letter.Same(right[0], right[1]) {
		t.Error("nil and empty are not the same")
	}
	if letter.Same(api.Letter{Text: []byte("hi")}, api.Letter{Text: []byte("ho")}) {
		t.Error("other texts are the same")
	}
	if !letter.Same(api.Letter{Text: []byte("hi")}, api.Letter{Text: []byte("hi")}) {
		t.Error("the same texts are not")
	}
}

func TestPut(t *testing.T) {
	b, e := letter.Put(api.Letter{To: 2, Seq: 1, Text: []byte("hi")})
	want := append([]byte{1, 0, 0, 0, 2, 0, 0, 0, 0, 0, 0, 0, 1, 2, 'h', 'i'}, make([]byte, 62)...)
	if e != api.OK || !bytes.Equal(b, want) {
		t.Errorf("got %v, %d", b, e)
	}
	for i, l := range right {
		old := slices.Clone(l.Text)
		b, e := letter.Put(l)
		if e != api.OK || !bytes.Equal(b, written(l)) {
			t.Errorf("right %d: got %v, %d", i, b, e)
		}
		for j := range b {
			b[j]++
		}
		if !bytes.Equal(l.Text, old) {
			t.Errorf("right %d: what was handed in is changed", i)
		}
	}
	for i, l := range wrong {
		if b, e := letter.Put(l); e != api.ErrArg || len(b) != 0 {
			t.Errorf("wrong %d: got %v, %d", i, b, e)
		}
	}
	for i, l := range long {
		if b, e := letter.Put(l); e != api.ErrLong || len(b) != 0 {
			t.Errorf("long %d: got %v, %d", i, b, e)
		}
	}
}

func TestTake(t *testing.T) {
	for i, l := range right {
		b := written(l)
		got, e := letter.Take(b)
		if e != api.OK || !letter.Same(got, l) {
			t.Errorf("right %d: got %v, %d", i, got, e)
		}
		for j := range got.Text {
			got.Text[j]++
		}
		_ = append(got.Text, 1)
		if !bytes.Equal(b, written(l)) {
			t.Errorf("right %d: what was handed in is changed", i)
		}
	}
}

func TestTakeForm(t *testing.T) {
	refused := func(name string, b []byte) {
		t.Helper()
		if l, e := letter.Take(b); e != api.ErrForm || !reflect.DeepEqual(l, api.Letter{}) {
			t.Errorf("%s: got %v, %d", name, l, e)
		}
	}
	good := written(api.Letter{From: 1, To: 2, Seq: 3, Text: []byte("hello")})
	for _, n := range []int{0, 1, 13, 77} {
		refused("cut", good[:n])
		refused("few noughts", make([]byte, n))
	}
	refused("nil", nil)
	refused("longer", append(slices.Clone(good), 0))
	refused("more noughts", make([]byte, 79))
	for at := 1; at < 78; at++ {
		b := make([]byte, 78)
		b[at] = 1
		refused("no cover", b)
	}
	for _, x := range []struct {
		at int
		to byte
	}{{0, 0}, {0, 2}, {0, 255}, {1, 1}, {2, 8}, {2, 255}, {3, 1}, {4, 8}, {12, 0}, {13, 4}, {13, 65}, {13, 255}, {19, 1}, {77, 1}} {
		b := slices.Clone(good)
		b[x.at] = x.to
		refused("changed", b)
	}
}

// P10.3: what was put is taken, and the other way round; all bodies have 78 bytes.
func TestFollows(t *testing.T) {
	r := rand.New(rand.NewSource(10))
	for range 2000 {
		l := api.Letter{From: r.Intn(8), To: r.Intn(8), Seq: 1 + r.Uint64()>>r.Intn(64), Text: make([]byte, r.Intn(65))}
		r.Read(l.Text)
		if l.Seq == 0 {
			l.Seq = 1
		}
		b, e := letter.Put(l)
		if e != api.OK || len(b) != api.BodyLen {
			t.Fatalf("%v: got %v, %d", l, b, e)
		}
		got, e := letter.Take(b)
		if e != api.OK || !letter.Same(got, l) {
			t.Fatalf("%v: got %v, %d", l, got, e)
		}
		b[r.Intn(78)] ^= 1 << r.Intn(8)
		if got, e := letter.Take(b); e == api.OK {
			if again, e := letter.Put(got); e != api.OK || !bytes.Equal(again, b) {
				t.Fatalf("%v: got %v, %d", b, again, e)
			}
		}
	}
}
