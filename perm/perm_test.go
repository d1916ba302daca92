package perm_test

import (
	"bytes"
	"math/big"
	"math/rand"
	"slices"
	"testing"

	"shallot/api"
	"shallot/perm"
)

const (
	maxInt = 1<<63 - 1
	minInt = -1 << 63
)

// shuffled is worked out from the words of the chapter, with whole numbers without bounds.
func shuffled(n int, draws []int) []int {
	var p []int
	for i := range n {
		p = append(p, i)
	}
	for i := n - 1; i >= 1; i-- {
		var d int
		if len(draws) > 0 {
			d, draws = draws[0], draws[1:]
		}
		var left big.Int
		left.Mod(big.NewInt(int64(d)), big.NewInt(int64(i+1)))
		j := int(left.Int64())
		p[i], p[j] = p[j], p[i]
	}
	return p
}

func numbered(n int) [][]byte {
	var l [][]byte
	for i := range n {
		l = append(l, []byte{byte(i), byte(i >> 8), 7}[:i%4%3+1])
	}
	return l
}

func TestShuffle(t *testing.T) {
	for _, n := range []int{minInt, -1, 1025, maxInt} {
		if p, used, e := perm.Shuffle(n, []int{1, 2}); e != api.ErrArg || used != 0 || len(p) != 0 {
			t.Errorf("%d: got %v, %d, %d", n, p, used, e)
		}
	}
	for _, x := range []struct {
		n     int
		draws []int
		want  []int
		used  int
	}{
		{0, []int{1, 2}, nil, 0},
		{1, []int{1, 2}, []int{0}, 0},
		{2, nil, []int{1, 0}, 0},
		{2, []int{1}, []int{0, 1}, 1},
		{2, []int{-1, 5}, []int{0, 1}, 1},
		{3, nil, []int{1, 2, 0}, 0},
		{3, []int{2, 1, 9}, []int{0, 1, 2}, 2},
		{3, []int{5}, []int{1, 0, 2}, 1},
		{3, []int{-2, 3}, []int{0, 2, 1}, 2},
		{4, []int{minInt, maxInt, minInt}, shuffled(4, []int{minInt, maxInt, minInt}), 3},
	} {
		old := slices.Clone(x.draws)
		p, used, e := perm.Shuffle(x.n, x.draws)
		if e != api.OK || used != x.used || !slices.Equal(p, x.want) || !slices.Equal(x.draws, old) {
			t.Errorf("%d by %v: got %v, %d, %d", x.n, x.draws, p, used, e)
		}
	}
	r := rand.New(rand.NewSource(11))
	for _, n := range []int{2, 3, 5, 8, 17, 64, 1023, 1024} {
		for _, many := range []int{0, 1, n - 2, n - 1, n, n + 5} {
			var draws []int
			for range many {
				draws = append(draws, int(r.Uint64()))
			}
			p, used, e := perm.Shuffle(n, draws)
			if e != api.OK || used != min(many, n-1) || !slices.Equal(p, shuffled(n, draws)) {
				t.Errorf("%d by %d: got %v, %d, %d", n, many, p, used, e)
			}
		}
	}
}

var wrong = [][]int{{1}, {-1}, {0, 0}, {0, 2}, {1, 1}, {2, 1}, {0, 1, 3}, {0, 1, -1}, {minInt}, {maxInt, 0}, {0, 1, 2, 2}}

func big1025() []int {
	p, _, _ := perm.Shuffle(1024, nil)
	return append(p, 1024)
}

func TestCheck(t *testing.T) {
	for _, p := range append(slices.Clone(wrong), big1025()) {
		if e := perm.Check(p); e != api.ErrArg {
			t.Errorf("%v: got %d", p, e)
		}
	}
	for _, p := range [][]int{nil, {}, {0}, {1, 0}, {0, 1}, {2, 0, 1}, big1025()[:1024]} {
		old := slices.Clone(p)
		if e := perm.Check(p); e != api.OK || !slices.Equal(p, old) {
			t.Errorf("%v: got %d", p, e)
		}
	}
}

func TestInverse(t *testing.T) {
	for _, p := range append(slices.Clone(wrong), big1025()) {
		if q, e := perm.Inverse(p); e != api.ErrArg || len(q) != 0 {
			t.Errorf("%v: got %v, %d", p, q, e)
		}
	}
	for _, x := range []struct{ p, want []int }{
		{nil, nil}, {[]int{0}, []int{0}}, {[]int{1, 0}, []int{1, 0}}, {[]int{1, 2, 0}, []int{2, 0, 1}}, {[]int{3, 1, 0, 2}, []int{2, 1, 3, 0}},
	} {
		old := slices.Clone(x.p)
		q, e := perm.Inverse(x.p)
		if e != api.OK || !slices.Equal(q, x.want) {
			t.Errorf("%v: got %v, %d", x.p, q, e)
		}
		for i := range q {
			q[i] = 9
		}
		if !slices.Equal(x.p, old) {
			t.Errorf("%v: what was handed in is changed", old)
		}
	}
}

func TestApply(t *testing.T) {
	for _, p := range append(slices.Clone(wrong), big1025()) {
		if l, e := perm.Apply(p, numbered(len(p))); e != api.ErrArg || len(l) != 0 {
			t.Errorf("%v: got %v, %d", p, l, e)
		}
	}
	for _, n := range []int{0, 1, 2, 4, 5} {
		if l, e := perm.Apply([]int{1, 2, 0}, numbered(n)); e != api.ErrArg || len(l) != 0 {
			t.Errorf("%d parts: got %v, %d", n, l, e)
		}
	}
	if l, e := perm.Apply(nil, nil); e != api.OK || len(l) != 0 {
		t.Errorf("none: got %v, %d", l, e)
	}
	in := [][]byte{[]byte("a"), nil, []byte("ccc")}
	l, e := perm.Apply([]int{2, 0, 1}, in)
	if e != api.OK || !slices.EqualFunc(l, [][]byte{[]byte("ccc"), []byte("a"), nil}, bytes.Equal) {
		t.Errorf("got %v, %d", l, e)
	}
	l[0][0], l[1] = 'x', nil
	in[0][0] = 'y'
	if string(in[2]) != "ccc" || string(in[0]) != "y" || l[1] != nil {
		t.Error("something is shared")
	}
	in = [][]byte{[]byte("a"), []byte("b")}
	l, _ = perm.Apply([]int{1, 0}, in)
	in[0][0], in[1][0] = 'x', 'y'
	if !slices.EqualFunc(l, [][]byte{[]byte("b"), []byte("a")}, bytes.Equal) {
		t.Error("what was told is changed from behind")
	}
}

// P11.4: each shuffle is one of draws; what was applied is turned back by the inverse.
func TestFollows(t *testing.T) {
	for n := range 6 {
		met := map[string]bool{}
		draws := make([]int, max(n-1, 0))
		all := 1
		for i := 2; i <= n; i++ {
			all *= i
		}
		for x := range all {
			for i, rest := 0, x; i < n-1; i++ {
				draws[i] = rest % (n - i)
				rest /= n - i
			}
			p, _, e := perm.Shuffle(n, draws)
			if e != api.OK || perm.Check(p) != api.OK {
				t.Fatalf("%d by %v: got %v, %d", n, draws, p, e)
			}
			name := ""
			for _, x := range p {
				name += string(rune('0' + x))
			}
			met[name] = true
		}
		if len(met) != all {
			t.Errorf("%d: %d shuffles of %d", n, len(met), all)
		}
	}
	r := rand.New(rand.NewSource(12))
	for n := range 100 {
		p := r.Perm(n)
		l := numbered(n)
		there, e := perm.Apply(p, l)
		if e != api.OK {
			t.Fatalf("%d: got %d", n, e)
		}
		q, e := perm.Inverse(p)
		if e != api.OK {
			t.Fatalf("%d: got %d", n, e)
		}
		back, e := perm.Apply(q, there)
		if e != api.OK || !slices.EqualFunc(back, l, bytes.Equal) {
			t.Fatalf("%d: got %v, %d", n, back, e)
		}
		for i := range p {
			if q[p[i]] != i {
				t.Fatalf("%v: got %v", p, q)
			}
		}
	}
}
