package net_test

import (
	"bytes"
	"math/rand"
	"slices"
	"testing"

	"shallot/api"
	"shallot/net"
)

const (
	maxInt = 1<<63 - 1
	minInt = -1 << 63
)

func flight(at, from, to int, b string) api.Flight {
	return api.Flight{At: at, From: from, To: to, Bytes: []byte(b)}
}

func sameList(a, b []api.Flight) bool {
	return slices.EqualFunc(a, b, func(f, g api.Flight) bool {
		return f.At == g.At && f.From == g.From && f.To == g.To && bytes.Equal(f.Bytes, g.Bytes)
	})
}

func same(a, b api.Net) bool { return sameList(a.List, b.List) && slices.Equal(a.Fates, b.Fates) }

// in tells a net with room behind its lists, into which nobody may write.
func in(fates ...int) api.Net {
	return api.Net{
		List:  append(make([]api.Flight, 0, 9), flight(9, 1, 2, "a"), flight(3, 2, 1, "b")),
		Fates: append(make([]int, 0, 9), fates...),
	}
}

func TestSend(t *testing.T) {
	for _, x := range []struct {
		fates []int
		now   int
		at    []int
	}{
		{nil, 5, []int{6}},
		{[]int{0}, 5, []int{6}},
		{[]int{18}, 5, []int{8, 9}},
		{[]int{18, 7}, 5, []int{8, 9}},
		{[]int{1, 2, 3}, 5, []int{7}},
		{[]int{15}, 5, []int{21}},
		{[]int{16}, 5, []int{6, 7}},
		{[]int{31}, 5, []int{21, 22}},
		{[]int{32}, 5, []int{6}},
		{[]int{47}, 5, []int{21}},
		{[]int{48}, 5, []int{6, 7}},
		{[]int{-1}, 5, nil},
		{[]int{-1, 16}, 5, nil},
		{[]int{-16}, 5, nil},
		{[]int{minInt, 1}, 5, nil},
		{[]int{maxInt}, 5, []int{21, 22}},
		{[]int{maxInt - 16}, 5, []int{21}},
		{nil, -7, []int{-6}},
		{nil, maxInt, []int{minInt}},
		{[]int{16}, maxInt - 1, []int{maxInt, minInt}},
		{[]int{31}, maxInt, []int{minInt + 15, minInt + 16}},
		{nil, minInt, []int{minInt + 1}},
	} {
		n, b := in(x.fates...), []byte("x")
		got := net.Send(n, x.now, 7, -4, b)
		b[0] = 'y'
		want := in()
		for _, at := range x.at {
			want.List = append(want.List, flight(at, 7, -4, "x"))
		}
		if len(x.fates) > 0 {
			want.Fates = x.fates[1:]
		}
		if !same(got, want) || !same(n, in(x.fates...)) {
			t.Errorf("%v at %d: got %v", x.fates, x.now, got)
		}
		if rest := n.List[:9][2:]; !sameList(rest, make([]api.Flight, 7)) {
			t.Errorf("%v: the room behind what was handed in is changed", x.fates)
		}
	}
	if got := net.Send(api.Net{}, 0, 0, 0, nil); !same(got, api.Net{List: []api.Flight{flight(1, 0, 0, "")}}) {
		t.Errorf("got %v", got)
	}
	// What comes of one net twice is not shared.
	n := in(1, 2)
	a, b := net.Send(n, 1, 1, 2, []byte("a")), net.Send(n, 1, 1, 2, []byte("b"))
	if string(a.List[2].Bytes) != "a" || string(b.List[2].Bytes) != "b" {
		t.Errorf("got %v, %v", a, b)
	}
}

func TestDue(t *testing.T) {
	list := []api.Flight{
		flight(5, 1, 2, "a"), flight(3, 2, 3, "b"), flight(6, 3, 4, "c"), flight(5, 4, 5, "d"),
		flight(minInt, 5, 6, "e"), flight(maxInt, 6, 7, "f"), flight(3, 7, 8, "g"), flight(7, 1, 2, "h"),
	}
	for _, x := range []struct {
		now       int
		due, rest string
	}{
		{minInt, "e", "abcdfgh"},
		{2, "e", "abcdfgh"},
		{3, "ebg", "acdfh"},
		{4, "ebg", "acdfh"},
		{5, "ebgad", "cfh"},
		{6, "ebgadc", "fh"},
		{7, "ebgadch", "f"},
		{maxInt, "ebgadchf", ""},
	} {
		n := api.Net{List: slices.Clone(list), Fates: []int{4, 5}}
		due, rest := net.Due(n, x.now)
		pick := func(names string) []api.Flight {
			var out []api.Flight
			for _, c := range names {
				out = append(out, list[c-'a'])
			}
			return out
		}
		if !sameList(due, pick(x.due)) || !same(rest, api.Net{List: pick(x.rest), Fates: []int{4, 5}}) {
			t.Errorf("%d: got %v, %v", x.now, due, rest)
		}
		if !sameList(n.List, list) {
			t.Errorf("%d: what was handed in is changed", x.now)
		}
	}
	if due, rest := net.Due(api.Net{}, 5); len(due) != 0 || !same(rest, api.Net{}) {
		t.Errorf("empty: got %v, %v", due, rest)
	}
}

// Of many flights those of one time stay in their order.
func TestDueOrder(t *testing.T) {
	r := rand.New(rand.NewSource(16))
	var n api.Net
	for i := range 300 {
		n.List = append(n.List, flight(r.Intn(4), i, 0, ""))
	}
	due, _ := net.Due(n, 2)
	for i := 1; i < len(due); i++ {
		if due[i].At < due[i-1].At || due[i].At == due[i-1].At && due[i].From < due[i-1].From {
			t.Fatalf("%d: got %v behind %v", i, due[i], due[i-1])
		}
	}
}

// P16.3: each fate is one frame's; what arrives was sent, and at most twice.
func TestFollows(t *testing.T) {
	r := rand.New(rand.NewSource(17))
	for range 50 {
		var n api.Net
		fates := make([]int, r.Intn(60))
		for i := range fates {
			fates[i] = r.Intn(100) - 20
		}
		n.Fates = slices.Clone(fates)
		met := map[int]int{}
		sent := 0
		for now := range 120 {
			for range r.Intn(3) {
				if sent < 60 && now < 80 {
					n = net.Send(n, now, sent, 1, []byte{byte(sent)})
					sent++
				}
			}
			var due []api.Flight
			due, n = net.Due(n, now)
			for _, f := range due {
				if f.From >= sent || !bytes.Equal(f.Bytes, []byte{byte(f.From)}) || f.At != now {
					t.Fatalf("at %d: got %v", now, f)
				}
				met[f.From]++
			}
		}
		for i := range sent {
			want := 1
			if i < len(fates) {
				if fates[i] < 0 {
					want = 0
				} else if fates[i]/16%2 == 1 {
					want = 2
				}
			}
			if met[i] != want {
				t.Fatalf("%d came %d times", i, met[i])
			}
		}
		if len(n.List) != 0 || len(n.Fates) != max(0, len(fates)-sent) {
			t.Fatalf("got %v behind %d", n, sent)
		}
	}
}
