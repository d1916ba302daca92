package note_test

import (
	"bytes"
	"math/rand"
	"reflect"
	"slices"
	"testing"

	"shallot/api"
	"shallot/note"
)

const maxInt = 1<<63 - 1

func parts(lens ...int) [][]byte {
	var out [][]byte
	for i, n := range lens {
		out = append(out, bytes.Repeat([]byte{byte(i + 1)}, n))
	}
	return out
}

func many(n, long int) [][]byte {
	var out [][]byte
	for range n {
		out = append(out, make([]byte, long))
	}
	return out
}

var right = []api.Note{
	{Kind: api.AnnounceN},
	{Kind: api.AnnounceN, Parts: [][]byte{}},
	{Kind: api.CloseN},
	{Kind: api.SubmitN, Parts: parts(5)},
	{Kind: api.SubmitN, Parts: parts(0)},
	{Kind: api.SubmitN, Parts: parts(1024)},
	{Kind: api.BatchN},
	{Kind: api.BatchN, Parts: parts(1, 0, 300)},
	{Kind: api.BatchN, Parts: many(64, 3)},
	{Kind: api.BatchN, Parts: many(64, 1024)},
	{Kind: api.BackN},
	{Kind: api.BackN, Parts: parts(32, 32)},
	{Kind: api.BackN, Parts: many(64, 32)},
	{Kind: api.ReceiptN, Parts: parts(32)},
	{Kind: api.ReceiptN, Parts: parts(1024)},
	{Kind: api.ReportN},
	{Kind: api.ReportN, Hop: 7},
	{Kind: api.ReportN, Hop: 7, Back: true},
	{Kind: api.ReportN, Hop: 2, Back: true},
}

var wrong = []api.Note{
	{},
	{Kind: 8},
	{Kind: -1},
	{Kind: 257},
	{Kind: maxInt},
	{Kind: -maxInt - 1, Parts: parts(1)},
	{Kind: api.AnnounceN, Parts: parts(0)},
	{Kind: api.AnnounceN, Parts: parts(1025)},
	{Kind: api.AnnounceN, Hop: 1},
	{Kind: api.AnnounceN, Back: true},
	{Kind: api.CloseN, Parts: parts(1)},
	{Kind: api.CloseN, Back: true},
	{Kind: api.CloseN, Hop: 3},
	{Kind: api.SubmitN},
	{Kind: api.SubmitN, Parts: parts(1, 1)},
	{Kind: api.SubmitN, Parts: parts(1025, 1)},
	{Kind: api.SubmitN, Parts: parts(1), Hop: 1},
	{Kind: api.SubmitN, Parts: parts(1025), Hop: 1},
	{Kind: api.SubmitN, Parts: parts(1), Back: true},
	{Kind: api.BatchN, Parts: many(65, 1)},
	{Kind: api.BatchN, Parts: many(65, 1025)},
	{Kind: api.BatchN, Hop: -1},
	{Kind: api.BatchN, Back: true},
	{Kind: api.BackN, Parts: many(65, 1)},
	{Kind: api.BackN, Hop: 1},
	{Kind: api.BackN, Back: true},
	{Kind: api.ReceiptN},
	{Kind: api.ReceiptN, Parts: parts(1, 2)},
	{Kind: api.ReceiptN, Parts: parts(1), Hop: 1},
	{Kind: api.ReceiptN, Parts: parts(1), Back: true},
	{Kind: api.ReportN, Hop: 8},
	{Kind: api.ReportN, Hop: -1},
	{Kind: api.ReportN, Hop: 256},
	{Kind: api.ReportN, Hop: maxInt},
	{Kind: api.ReportN, Parts: parts(1)},
	{Kind: api.ReportN, Hop: 1, Back: true, Parts: parts(0)},
}

var long = []api.Note{
	{Kind: api.SubmitN, Parts: parts(1025)},
	{Kind: api.BatchN, Parts: parts(1, 1025)},
	{Kind: api.BatchN, Parts: append(many(63, 1024), make([]byte, 1025))},
	{Kind: api.BackN, Parts: parts(70000, 1)},
	{Kind: api.ReceiptN, Parts: parts(2000)},
}

func written(n api.Note) []byte {
	b := []byte{byte(n.Kind), byte(len(n.Parts) >> 8), byte(len(n.Parts))}
	for _, p := range n.Parts {
		b = append(append(b, byte(len(p)>>8), byte(len(p))), p...)
	}
	if n.Kind == api.ReportN {
		back := byte(0)
		if n.Back {
			back = 1
		}
		b = append(b, byte(n.Hop), back)
	}
	return b
}

func TestCheck(t *testing.T) {
	for i, n := range right {
		if e := note.Check(n); e != api.OK {
			t.Errorf("right %d: got %d", i, e)
		}
	}
	for i, n := range wrong {
		if e := note.Check(n); e != api.ErrArg {
			t.Errorf("wrong %d: got %d", i, e)
		}
	}
	for i, n := range long {
		if e := note.Check(n); e != api.ErrLong {
			t.Errorf("long %d: got %d", i, e)
		}
	}
}

func TestSame(t *testing.T) {
	all := slices.Concat(right[2:], wrong, long)
	for i, n := range all {
		for j, m := range all {
			want := i == j || reflect.DeepEqual(n, m)
			if note.Same(n, m) != want {
				t.Errorf("%d, %d: got %t", i, j, !want)
			}
		}
	}
	if !note.Same(api.Note{}, api.Note{Parts: [][]byte{}}) || !note.Same(api.Note{Parts: [][]byte{nil}}, api.Note{Parts: [][]byte{{}}}) {
		t.Error("nil and empty are not the same")
	}
	if note.Same(api.Note{Parts: parts(2)}, api.Note{Parts: [][]byte{{1, 2}}}) {
		t.Error("other bytes are the same")
	}
	if note.Same(api.Note{Parts: [][]byte{{1}, {2}}}, api.Note{Parts: [][]byte{{1, 2}}}) {
		t.Error("parts put together are the same")
	}
}

func TestPut(t *testing.T) {
	if b, e := note.Put(api.Note{Kind: api.ReportN, Hop: 2, Back: true}); e != api.OK || !bytes.Equal(b, []byte{7, 0, 0, 2, 1}) {
		t.Errorf("got %v, %d", b, e)
	}
	if b, e := note.Put(api.Note{Kind: api.BatchN, Parts: [][]byte{{9}, nil}}); e != api.OK || !bytes.Equal(b, []byte{4, 0, 2, 0, 1, 9, 0, 0}) {
		t.Errorf("got %v, %d", b, e)
	}
	for i, n := range right {
		var old [][]byte
		for _, p := range n.Parts {
			old = append(old, slices.Clone(p))
		}
		b, e := note.Put(n)
		if e != api.OK || !bytes.Equal(b, written(n)) {
			t.Errorf("right %d: got %d bytes, %d", i, len(b), e)
		}
		for j := range b {
			b[j]++
		}
		if !slices.EqualFunc(n.Parts, old, bytes.Equal) {
			t.Errorf("right %d: what was handed in is changed", i)
		}
	}
	for i, n := range wrong {
		if b, e := note.Put(n); e != api.ErrArg || len(b) != 0 {
			t.Errorf("wrong %d: got %d bytes, %d", i, len(b), e)
		}
	}
	for i, n := range long {
		if b, e := note.Put(n); e != api.ErrLong || len(b) != 0 {
			t.Errorf("long %d: got %d bytes, %d", i, len(b), e)
		}
	}
}

func TestTake(t *testing.T) {
	for i, n := range right {
		b := written(n)
		old := slices.Clone(b)
		got, e := note.Take(b)
		if e != api.OK || !note.Same(got, n) {
			t.Errorf("right %d: got %v, %d", i, got, e)
		}
		for j := range got.Parts {
			for k := range got.Parts[j] {
				got.Parts[j][k]++
			}
			_ = append(got.Parts[j], 77)
		}
		if !bytes.Equal(b, old) {
			t.Errorf("right %d: what was handed in is changed", i)
		}
		if len(b) > 3000 {
			continue
		}
		for j := range b {
			if got, e := note.Take(b[:j]); e == api.OK && !bytes.Equal(written(got), b[:j]) || e != api.OK && (e != api.ErrForm || !reflect.DeepEqual(got, api.Note{})) {
				t.Errorf("right %d, %d bytes of it: got %v, %d", i, j, got, e)
			}
		}
		if got, e := note.Take(append(slices.Clone(b), 0)); e != api.ErrForm || !reflect.DeepEqual(got, api.Note{}) {
			t.Errorf("right %d and a byte: got %v, %d", i, got, e)
		}
	}
}

func TestTakeForm(t *testing.T) {
	for _, b := range [][]byte{
		nil, {}, {1}, {1, 0}, {0, 0, 0}, {8, 0, 0}, {255, 0, 0},
		{1, 0, 1, 0, 0}, {1, 0, 0, 0}, {2, 0, 1, 0, 1, 5},
		{3, 0, 0}, {3, 0, 1}, {3, 0, 1, 0}, {3, 0, 1, 0, 1}, {3, 0, 1, 0, 1, 1, 1}, {3, 0, 2, 0, 0, 0, 0}, {3, 1, 1, 0, 0},
		{4, 0, 1}, {4, 255, 255}, {4, 0, 1, 255, 255, 1}, {4, 0, 2, 0, 0}, {4, 0, 0, 0, 0},
		{6, 0, 0}, {6, 0, 2, 0, 1, 1, 0, 1, 1},
		{7, 0, 0}, {7, 0, 0, 1}, {7, 0, 0, 8, 0}, {7, 0, 0, 1, 2}, {7, 0, 0, 1, 255}, {7, 0, 0, 1, 1, 0}, {7, 0, 1, 0, 0, 1, 1},
		written(api.Note{Kind: api.BatchN, Parts: many(65, 1)}),
		written(api.Note{Kind: api.BackN, Parts: many(300, 0)}),
		written(api.Note{Kind: api.SubmitN, Parts: parts(1025)}),
		written(api.Note{Kind: api.BatchN, Parts: parts(1, 1025)}),
	} {
		if n, e := note.Take(b); e != api.ErrForm || !reflect.DeepEqual(n, api.Note{}) {
			t.Errorf("%.20v: got %v, %d", b, n, e)
		}
	}
}

func drawn(r *rand.Rand) api.Note {
	n := api.Note{Kind: 1 + r.Intn(7)}
	switch n.Kind {
	case api.SubmitN, api.ReceiptN:
		n.Parts = parts(r.Intn(1025))
	case api.BatchN, api.BackN:
		for range r.Intn(65) {
			p := make([]byte, r.Intn(40))
			r.Read(p)
			n.Parts = append(n.Parts, p)
		}
	case api.ReportN:
		n.Hop, n.Back = r.Intn(8), r.Intn(2) == 1
	}
	return n
}

// P6.3: what was put is taken, and the other way round; how many bytes there are hangs on the kind and the parts' lengths.
func TestFollows(t *testing.T) {
	r := rand.New(rand.NewSource(6))
	for range 2000 {
		n := drawn(r)
		b, e := note.Put(n)
		if e != api.OK {
			t.Fatalf("%v: got %d", n, e)
		}
		got, e := note.Take(b)
		if e != api.OK || !note.Same(got, n) {
			t.Fatalf("%v: got %v, %d", n, got, e)
		}
		want := 3
		for _, p := range n.Parts {
			want += 2 + len(p)
		}
		if n.Kind == api.ReportN {
			want += 2
		}
		if len(b) != want {
			t.Fatalf("%v: %d bytes", n, len(b))
		}
	}
	for range 20000 {
		b := make([]byte, r.Intn(12))
		r.Read(b)
		for i := range b {
			b[i] %= 9
		}
		if n, e := note.Take(b); e == api.OK {
			if again, e := note.Put(n); e != api.OK || !bytes.Equal(again, b) {
				t.Fatalf("%v: got %v, %d", b, again, e)
			}
		}
	}
}
