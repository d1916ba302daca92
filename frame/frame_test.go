package frame_test

import (
	"bytes"
	"crypto/hmac"
	"crypto/sha256"
	"encoding/binary"
	"math/rand"
	"reflect"
	"slices"
	"testing"

	"shallot/api"
	"shallot/frame"
)

const maxInt = 1<<63 - 1

var key = []byte("a key")

func tagged(key, b []byte) []byte {
	h := hmac.New(sha256.New, key)
	h.Write(b)
	return append(slices.Clone(b), h.Sum(nil)...)
}

// raw tells the bytes without the tag, whatever the frame is.
func raw(f api.Frame) []byte {
	b := []byte{byte(f.From), byte(f.To)}
	b = binary.BigEndian.AppendUint64(b, f.Stamp.Epoch)
	b = binary.BigEndian.AppendUint64(b, f.Stamp.Round)
	b = append(b, byte(len(f.Stamp.Chain)))
	for _, n := range f.Stamp.Chain {
		b = append(b, byte(n))
	}
	b = append(b, byte(f.Kind))
	b = binary.BigEndian.AppendUint32(b, uint32(f.Seq))
	b = binary.BigEndian.AppendUint32(b, uint32(len(f.Body)))
	return append(b, f.Body...)
}

func data(body ...byte) api.Frame {
	return api.Frame{From: 1, To: 2, Stamp: api.Stamp{Epoch: 1, Round: 2, Chain: []int{3, 1}}, Kind: api.DataF, Seq: 7, Body: body}
}

func ack() api.Frame {
	f := data()
	f.Kind = api.AckF
	return f
}

func with(f api.Frame, change func(*api.Frame)) api.Frame {
	f.Stamp.Chain = slices.Clone(f.Stamp.Chain)
	f.Body = slices.Clone(f.Body)
	change(&f)
	return f
}

type changed func(*api.Frame)

// wrong: what makes a frame one that may not be, for something else than a long body.
var wrong = []changed{
	func(f *api.Frame) { f.From = -1 },
	func(f *api.Frame) { f.From = 25 },
	func(f *api.Frame) { f.From = 257 },
	func(f *api.Frame) { f.From = maxInt },
	func(f *api.Frame) { f.To = -1 },
	func(f *api.Frame) { f.To = 25 },
	func(f *api.Frame) { f.To = -maxInt - 1 },
	func(f *api.Frame) { f.To = 1 },
	func(f *api.Frame) { f.Stamp.Chain = nil },
	func(f *api.Frame) { f.Stamp.Chain = []int{1, 1} },
	func(f *api.Frame) { f.Stamp.Chain = []int{17} },
	func(f *api.Frame) { f.Stamp.Chain = []int{1, 2, 3, 4, 5, 6, 7, 8, 9} },
	func(f *api.Frame) { f.Kind = 0 },
	func(f *api.Frame) { f.Kind = 3 },
	func(f *api.Frame) { f.Kind = -1 },
	func(f *api.Frame) { f.Kind = 257 },
	func(f *api.Frame) { f.Seq = -1 },
	func(f *api.Frame) { f.Seq = 1 << 31 },
	func(f *api.Frame) { f.Seq = 1 << 32 },
	func(f *api.Frame) { f.Seq = maxInt },
}

// right: what a frame may be all the same.
var right = []changed{
	func(f *api.Frame) {},
	func(f *api.Frame) { f.From = 0 },
	func(f *api.Frame) { f.From = 24 },
	func(f *api.Frame) { f.To = 0 },
	func(f *api.Frame) { f.To = 24 },
	func(f *api.Frame) { f.From, f.To = 24, 0 },
	func(f *api.Frame) { f.Seq = 0 },
	func(f *api.Frame) { f.Seq = 1<<31 - 1 },
	func(f *api.Frame) { f.Stamp.Chain = []int{16} },
	func(f *api.Frame) { f.Stamp.Chain = []int{8, 7, 6, 5, 4, 3, 2, 1} },
	func(f *api.Frame) { f.Stamp.Epoch, f.Stamp.Round = 0, api.MaxNumber },
}

func TestCheck(t *testing.T) {
	for i, change := range right {
		for _, f := range []api.Frame{data(1, 2), data(), ack(), with(data(), func(f *api.Frame) { f.Body = make([]byte, 65536) })} {
			if e := frame.Check(with(f, change)); e != api.OK {
				t.Errorf("right %d: got %d", i, e)
			}
		}
		if e := frame.Check(with(with(data(), func(f *api.Frame) { f.Body = make([]byte, 65537) }), change)); e != api.ErrLong {
			t.Errorf("right %d, too long: got %d", i, e)
		}
		for _, many := range []int{1, 65536, 65537} {
			if e := frame.Check(with(with(ack(), func(f *api.Frame) { f.Body = make([]byte, many) }), change)); e != api.ErrArg {
				t.Errorf("right %d, an AckF of %d: got %d", i, many, e)
			}
		}
	}
	for i, change := range wrong {
		for _, f := range []api.Frame{data(1, 2), data(), ack(), with(data(), func(f *api.Frame) { f.Body = make([]byte, 65537) })} {
			if e := frame.Check(with(f, change)); e != api.ErrArg {
				t.Errorf("wrong %d: got %d", i, e)
			}
		}
	}
	if e := frame.Check(api.Frame{}); e != api.ErrArg {
		t.Errorf("zero: got %d", e)
	}
	if e := frame.Check(with(ack(), func(f *api.Frame) { f.Body = []byte{} })); e != api.OK {
		t.Errorf("an AckF with an empty body: got %d", e)
	}
}

func TestSame(t *testing.T) {
	f := data(1, 2, 3)
	if !frame.Same(f, data(1, 2, 3)) {
		t.Error("the same is not")
	}
	for i, change := range []changed{
		func(f *api.Frame) { f.From = 3 },
		func(f *api.Frame) { f.To = 3 },
		func(f *api.Frame) { f.Stamp.Epoch = 3 },
		func(f *api.Frame) { f.Stamp.Round = 3 },
		func(f *api.Frame) { f.Stamp.Chain = []int{1, 3} },
		func(f *api.Frame) { f.Stamp.Chain = []int{3} },
		func(f *api.Frame) { f.Kind = 2 },
		func(f *api.Frame) { f.Seq = 8 },
		func(f *api.Frame) { f.Body = []byte{1, 2} },
		func(f *api.Frame) { f.Body = []byte{1, 2, 4} },
		func(f *api.Frame) { f.Body = nil },
	} {
		if g := with(f, change); frame.Same(f, g) || frame.Same(g, f) {
			t.Errorf("%d is the same", i)
		}
	}
	if !frame.Same(api.Frame{}, api.Frame{Body: []byte{}, Stamp: api.Stamp{Chain: []int{}}}) {
		t.Error("nil and empty are not the same")
	}
}

func TestPut(t *testing.T) {
	if b, e := frame.Put(key, ack()); e != api.OK || len(b) != 62 {
		t.Errorf("got %d bytes, %d", len(b), e)
	}
	for i, change := range right {
		for _, f := range []api.Frame{data(1, 2), data(), ack()} {
			f = with(f, change)
			old := with(f, func(*api.Frame) {})
			b, e := frame.Put(key, f)
			if e != api.OK || !bytes.Equal(b, tagged(key, raw(f))) {
				t.Errorf("right %d: got %x, %d", i, b, e)
			}
			for i := range b {
				b[i]++
			}
			if !frame.Same(f, old) {
				t.Errorf("right %d: what was handed in is changed", i)
			}
		}
	}
	for i, change := range wrong {
		if b, e := frame.Put(key, with(data(1), change)); e != api.ErrArg || len(b) != 0 {
			t.Errorf("wrong %d: got %x, %d", i, b, e)
		}
	}
	long := with(data(), func(f *api.Frame) { f.Body = make([]byte, 65537) })
	if b, e := frame.Put(key, long); e != api.ErrLong || len(b) != 0 {
		t.Errorf("too long: got %d bytes, %d", len(b), e)
	}
	long.Body = long.Body[:65536]
	if b, e := frame.Put(nil, long); e != api.OK || !bytes.Equal(b, tagged(nil, raw(long))) {
		t.Errorf("just not too long: got %d bytes, %d", len(b), e)
	}
}

func refused(t *testing.T, name string, key, b []byte, want api.Errno) {
	t.Helper()
	if f, e := frame.Take(key, b); e != want || !reflect.DeepEqual(f, api.Frame{}) {
		t.Errorf("%s: got %v, %d", name, f, e)
	}
}

func TestTakeForm(t *testing.T) {
	for _, n := range []int{0, 1, 31, 32, 33, 34, 50, 61} {
		refused(t, "noughts", key, make([]byte, n), api.ErrForm)
		refused(t, "few bytes", key, tagged(key, make([]byte, n)), api.ErrForm)
	}
	refused(t, "nil", key, nil, api.ErrForm)
	good := raw(data(1, 2, 3))
	for i := range good {
		refused(t, "cut", key, tagged(key, good[:i]), api.ErrForm)
	}
	refused(t, "longer", key, tagged(key, append(slices.Clone(good), 0)), api.ErrForm)
	refused(t, "an AckF and one byte", key, tagged(key, append(raw(ack()), 0)), api.ErrForm)
	for i, x := range []struct {
		at int
		to byte
	}{
		{0, 25}, {0, 255}, {0, 2}, {1, 25}, {1, 1}, {18, 0}, {18, 1}, {18, 3}, {18, 9}, {19, 17}, {19, 0}, {19, 1}, {20, 3},
		{21, 0}, {21, 3}, {21, 2}, {22, 128}, {22, 255}, {26, 1}, {27, 1}, {28, 1}, {29, 2}, {29, 4},
	} {
		b := slices.Clone(good)
		b[x.at] = x.to
		refused(t, string(rune('a'+i)), key, tagged(key, b), api.ErrForm)
	}
	long := with(data(), func(f *api.Frame) { f.Body = make([]byte, 65537) })
	refused(t, "too long", key, tagged(key, raw(long)), api.ErrForm)
	refused(t, "an AckF with a body", key, tagged(key, raw(with(ack(), func(f *api.Frame) { f.Body = []byte{1} }))), api.ErrForm)
	// The form is looked at ahead of the tag.
	refused(t, "neither form nor tag", key, append(make([]byte, 40), 1), api.ErrForm)
}

func TestTakeTag(t *testing.T) {
	b := tagged(key, raw(data(1, 2, 3)))
	refused(t, "another key", []byte("another"), b, api.ErrTag)
	refused(t, "no key", nil, b, api.ErrTag)
	for i := len(b) - 32; i < len(b); i++ {
		bad := slices.Clone(b)
		bad[i] ^= 4
		refused(t, "another tag", key, bad, api.ErrTag)
	}
	for _, i := range []int{2, 9, 10, 17, 25, 30, 32} {
		bad := slices.Clone(b)
		bad[i] ^= 4
		refused(t, "other bytes", key, bad, api.ErrTag)
	}
}

func TestTake(t *testing.T) {
	for i, change := range right {
		for _, f := range []api.Frame{data(1, 2), data(), ack(), with(data(), func(f *api.Frame) { f.Body = make([]byte, 65536) })} {
			f = with(f, change)
			b := tagged(key, raw(f))
			old := slices.Clone(b)
			got, e := frame.Take(key, b)
			if e != api.OK || !frame.Same(got, f) {
				t.Errorf("right %d: got %v, %d", i, got, e)
			}
			for i := range got.Body {
				got.Body[i]++
			}
			got.Stamp.Chain[0]++
			if !bytes.Equal(b, old) {
				t.Errorf("right %d: what was handed in is changed", i)
			}
		}
	}
}

// P5.4: what was put is taken by the same key, and nothing that is longer or shorter.
func TestFollows(t *testing.T) {
	r := rand.New(rand.NewSource(9))
	for range 500 {
		f := api.Frame{From: r.Intn(25), Kind: 1 + r.Intn(2), Seq: r.Intn(1 << 31)}
		f.To = (f.From + 1 + r.Intn(24)) % 25
		f.Stamp = api.Stamp{Epoch: r.Uint64(), Round: r.Uint64()}
		for _, x := range r.Perm(16)[:1+r.Intn(8)] {
			f.Stamp.Chain = append(f.Stamp.Chain, x+1)
		}
		if f.Kind == api.DataF {
			f.Body = make([]byte, r.Intn(100))
			r.Read(f.Body)
		}
		k := make([]byte, r.Intn(80))
		r.Read(k)
		b, e := frame.Put(k, f)
		if e != api.OK {
			t.Fatalf("%v: got %d", f, e)
		}
		if got, e := frame.Take(k, b); e != api.OK || !frame.Same(got, f) {
			t.Fatalf("%v: got %v, %d", f, got, e)
		}
		if _, e := frame.Take(append(slices.Clone(k), 1), b); e != api.ErrTag {
			t.Fatalf("another key: got %d", e)
		}
		for n := range b {
			if _, e := frame.Take(k, b[:n]); e == api.OK {
				t.Fatalf("%v: %d bytes are taken", f, n)
			}
		}
		if _, e := frame.Take(k, append(slices.Clone(b), byte(r.Intn(256)))); e == api.OK {
			t.Fatalf("%v: more bytes are taken", f)
		}
	}
}
