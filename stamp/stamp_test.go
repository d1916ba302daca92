package stamp_test

import (
	"bytes"
	"encoding/binary"
	"math/rand"
	"reflect"
	"slices"
	"testing"

	"shallot/api"
	"shallot/stamp"
)

const maxInt = 1<<63 - 1

func written(s api.Stamp) []byte {
	b := binary.BigEndian.AppendUint64(nil, s.Epoch)
	b = binary.BigEndian.AppendUint64(b, s.Round)
	b = append(b, byte(len(s.Chain)))
	for _, n := range s.Chain {
		b = append(b, byte(n))
	}
	return b
}

var wrong = [][]int{
	nil,
	{},
	{0},
	{17},
	{-1},
	{maxInt},
	{-maxInt - 1},
	{257},
	{1, 1},
	{16, 16},
	{3, 1, 3},
	{1, 2, 3, 4, 5, 6, 7, 7},
	{1, 0},
	{1, 17},
	{1, 2, 3, 4, 5, 6, 7, 8, 9},
	{1, 2, 3, 4, 5, 6, 7, 8, 8},
}

var right = [][]int{
	{1},
	{16},
	{3, 1},
	{16, 1, 8},
	{1, 2, 3, 4, 5, 6, 7, 8},
	{16, 15, 14, 13, 12, 11, 10, 9},
}

var numbers = []uint64{0, 1, 2, 255, 256, 1 << 32, 1<<63 - 1, 1 << 63, api.MaxNumber}

func TestCheck(t *testing.T) {
	for _, n := range numbers {
		for _, chain := range wrong {
			if e := stamp.Check(api.Stamp{Epoch: n, Round: n, Chain: chain}); e != api.ErrArg {
				t.Errorf("%v: got %d", chain, e)
			}
		}
		for _, chain := range right {
			old := slices.Clone(chain)
			if e := stamp.Check(api.Stamp{Epoch: n, Round: n, Chain: chain}); e != api.OK || !slices.Equal(chain, old) {
				t.Errorf("%v: got %d", chain, e)
			}
		}
	}
}

func TestCompare(t *testing.T) {
	for i, a := range numbers {
		for j, b := range numbers {
			for k, c := range numbers {
				for l, d := range numbers {
					want := 0
					if i < k || i == k && j < l {
						want = -1
					} else if i > k || j > l {
						want = 1
					}
					x := api.Stamp{Epoch: a, Round: b, Chain: []int{1}}
					y := api.Stamp{Epoch: c, Round: d, Chain: []int{2, 3}}
					if got := stamp.Compare(x, y); got != want {
						t.Fatalf("%v, %v: got %d", x, y, got)
					}
				}
			}
		}
	}
	if got := stamp.Compare(api.Stamp{}, api.Stamp{Chain: []int{9, 9, 99}}); got != 0 {
		t.Errorf("chains say something: %d", got)
	}
}

func TestSame(t *testing.T) {
	s := api.Stamp{Epoch: 1, Round: 2, Chain: []int{3, 1}}
	if !stamp.Same(s, api.Stamp{Epoch: 1, Round: 2, Chain: []int{3, 1}}) {
		t.Error("the same is not")
	}
	for _, x := range []api.Stamp{
		{Epoch: 2, Round: 2, Chain: []int{3, 1}},
		{Epoch: 1, Round: 1, Chain: []int{3, 1}},
		{Epoch: 2, Round: 1, Chain: []int{3, 1}},
		{Epoch: 1, Round: 2, Chain: []int{1, 3}},
		{Epoch: 1, Round: 2, Chain: []int{3}},
		{Epoch: 1, Round: 2, Chain: []int{3, 1, 2}},
		{Epoch: 1, Round: 2, Chain: []int{3, 2}},
		{Epoch: 1, Round: 2},
	} {
		if stamp.Same(s, x) || stamp.Same(x, s) {
			t.Errorf("%v is the same", x)
		}
	}
	if !stamp.Same(api.Stamp{}, api.Stamp{Chain: []int{}}) {
		t.Error("nil and empty are not the same")
	}
	if !stamp.Same(api.Stamp{Chain: []int{0, 0}}, api.Stamp{Chain: []int{0, 0}}) {
		t.Error("stamps that may not be are not the same")
	}
}

func TestPut(t *testing.T) {
	b, e := stamp.Put(api.Stamp{Epoch: 1, Round: 2, Chain: []int{3, 1}})
	if e != api.OK || !bytes.Equal(b, []byte{0, 0, 0, 0, 0, 0, 0, 1, 0, 0, 0, 0, 0, 0, 0, 2, 2, 3, 1}) {
		t.Errorf("got %v, %d", b, e)
	}
	for _, chain := range wrong {
		if b, e := stamp.Put(api.Stamp{Epoch: 1, Round: 1, Chain: chain}); e != api.ErrArg || len(b) != 0 {
			t.Errorf("%v: got %x, %d", chain, b, e)
		}
	}
	for _, n := range numbers {
		for _, m := range numbers {
			for _, chain := range right {
				s := api.Stamp{Epoch: n, Round: m, Chain: chain}
				if b, e := stamp.Put(s); e != api.OK || !bytes.Equal(b, written(s)) {
					t.Errorf("%v: got %x, %d", s, b, e)
				}
			}
		}
	}
}

func TestTake(t *testing.T) {
	good := []byte{0, 0, 0, 0, 0, 0, 0, 1, 0, 0, 0, 0, 0, 0, 1, 2, 2, 3, 1}
	s, n, e := stamp.Take(good)
	if e != api.OK || n != 19 || !reflect.DeepEqual(s, api.Stamp{Epoch: 1, Round: 258, Chain: []int{3, 1}}) {
		t.Errorf("got %v, %d, %d", s, n, e)
	}
	s.Chain[0] = 9
	if good[17] != 3 {
		t.Error("what was handed in is changed")
	}
	for i := range good {
		if s, n, e := stamp.Take(good[:i]); e != api.ErrForm || n != 0 || !reflect.DeepEqual(s, api.Stamp{}) {
			t.Errorf("%d bytes: got %v, %d, %d", i, s, n, e)
		}
	}
	head := make([]byte, 16)
	for _, tail := range [][]byte{
		{0}, {0, 1}, {1}, {1, 0}, {1, 17}, {1, 255}, {2, 1}, {2, 1, 1}, {3, 1, 2, 1}, {3, 1, 2},
		{8, 1, 2, 3, 4, 5, 6, 7}, {9, 1, 2, 3, 4, 5, 6, 7, 8, 9}, {255, 1, 2}, append([]byte{255}, make([]byte, 255)...),
	} {
		if s, n, e := stamp.Take(append(slices.Clone(head), tail...)); e != api.ErrForm || n != 0 || !reflect.DeepEqual(s, api.Stamp{}) {
			t.Errorf("%v: got %v, %d, %d", tail, s, n, e)
		}
	}
	if s, n, e := stamp.Take(nil); e != api.ErrForm || n != 0 || !reflect.DeepEqual(s, api.Stamp{}) {
		t.Errorf("nil: got %v, %d, %d", s, n, e)
	}
}

func drawn(r *rand.Rand) api.Stamp {
	s := api.Stamp{Epoch: numbers[r.Intn(len(numbers))], Round: r.Uint64()}
	for _, x := range r.Perm(16)[:1+r.Intn(8)] {
		s.Chain = append(s.Chain, x+1)
	}
	return s
}

// P4.3: what was put is taken, whatever stands behind it, and the other way round; Compare is an order.
func TestFollows(t *testing.T) {
	r := rand.New(rand.NewSource(4))
	for range 3000 {
		s := drawn(r)
		b, e := stamp.Put(s)
		if e != api.OK {
			t.Fatalf("%v: got %d", s, e)
		}
		behind := make([]byte, r.Intn(4))
		r.Read(behind)
		got, n, e := stamp.Take(append(slices.Clone(b), behind...))
		if e != api.OK || n != len(b) || !reflect.DeepEqual(got, s) || !stamp.Same(got, s) {
			t.Fatalf("%v: got %v, %d, %d", s, got, n, e)
		}
		if again, e := stamp.Put(got); e != api.OK || !bytes.Equal(again, b) {
			t.Fatalf("%v: got %x, %d", s, again, e)
		}
		x, y := drawn(r), drawn(r)
		if stamp.Compare(x, y) != -stamp.Compare(y, x) || stamp.Compare(x, x) != 0 {
			t.Fatalf("%v, %v: not the other way round", x, y)
		}
		if stamp.Compare(s, x) <= 0 && stamp.Compare(x, y) <= 0 && stamp.Compare(s, y) > 0 {
			t.Fatalf("%v, %v, %v: no order", s, x, y)
		}
	}
}
