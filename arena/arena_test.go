package arena_test

import (
	"math"
	"math/rand"
	"slices"
	"testing"

	"linhay/api"
	"linhay/arena"
	"linhay/class"
)

var free = api.Seg{Class: -1}

func many(n int, s api.Seg) []api.Seg { return slices.Repeat([]api.Seg{s}, n) }

// wrong are segments that may not be.
func wrong() [][]api.Seg {
	return [][]api.Seg{
		many(201, free),
		{{Class: -1, Used: 1}},
		{{Class: 0}},
		{{Class: 3}},
		{{Class: -2}},
		{{Class: -2, Used: 1}},
		{{Class: 4, Used: 1}},
		{{Class: math.MinInt, Used: 1}},
		{{Class: math.MaxInt, Used: 1}},
		{{Class: 1, Used: 1 << 32}},
		{{Class: 2, Used: 1 << 16}},
		{{Class: 3, Used: 1 << 8}},
		{{Class: 3, Used: 1<<63 | 1}},
		{free, {Class: 3, Used: 5}, {Class: 3}},
	}
}

func TestP11_1New(t *testing.T) {
	for _, n := range []int{0, 1, 7, 200} {
		if l, e := arena.New(n); e != api.OK || !slices.Equal(l, many(n, free)) || !arena.Check(l) {
			t.Errorf("New(%d) = %v, %d", n, l, e)
		}
	}
	for _, n := range []int{-1, 201, math.MinInt, math.MaxInt} {
		if l, e := arena.New(n); e != api.ErrRoom || len(l) != 0 {
			t.Errorf("New(%d) = %v, %d", n, l, e)
		}
	}
}

func TestP11_1Check(t *testing.T) {
	for i, l := range wrong() {
		if arena.Check(l) {
			t.Errorf("%d may not be", i)
		}
	}
	for i, l := range [][]api.Seg{nil, {}, {free}, many(200, free), {{Class: 0, Used: math.MaxUint64}}, {{Class: 0, Used: 1 << 63}}, {{Class: 1, Used: 1<<32 - 1}}, {{Class: 2, Used: 1 << 15}, free, {Class: 3, Used: 255}}} {
		if !arena.Check(l) {
			t.Errorf("%d may be", i)
		}
	}
}

func TestP11_1Has(t *testing.T) {
	l := []api.Seg{{Class: 0, Used: 1<<63 | 2}, free, {Class: 3, Used: 129}}
	has := map[api.Slot]bool{{Seg: 0, At: 63}: true, {Seg: 0, At: 1}: true, {Seg: 2, At: 0}: true, {Seg: 2, At: 7}: true}
	places := []int{math.MinInt, -65, -64, -1, 0, 1, 2, 3, 7, 8, 62, 63, 64, 65, 127, 128, math.MaxInt}
	for _, seg := range places {
		for _, at := range places {
			s := api.Slot{Seg: seg, At: at}
			if arena.Has(l, s) != has[s] {
				t.Errorf("Has(%v) = %v", s, arena.Has(l, s))
			}
		}
	}
	for i, l := range wrong() {
		if arena.Has(l, api.Slot{}) || arena.Has(l, api.Slot{Seg: 1}) || arena.Has(l, api.Slot{Seg: 1, At: 2}) {
			t.Errorf("%d has a slot", i)
		}
	}
}

func TestP11_2(t *testing.T) {
	for i, c := range []struct {
		l    []api.Seg
		c    int
		slot api.Slot
		e    api.Errno
		seg  api.Seg
	}{
		{nil, 0, api.Slot{}, api.ErrRoom, api.Seg{}},
		{nil, 4, api.Slot{}, api.ErrSize, api.Seg{}},
		{nil, -1, api.Slot{}, api.ErrSize, api.Seg{}},
		{[]api.Seg{free}, -1, api.Slot{}, api.ErrSize, api.Seg{}},
		{[]api.Seg{free}, math.MaxInt, api.Slot{}, api.ErrSize, api.Seg{}},
		{[]api.Seg{free, free}, 2, api.Slot{}, api.OK, api.Seg{Class: 2, Used: 1}},
		{[]api.Seg{free, {Class: 2, Used: 5}}, 2, api.Slot{Seg: 1, At: 1}, api.OK, api.Seg{Class: 2, Used: 7}},
		{[]api.Seg{free, {Class: 2, Used: 1<<16 - 1}}, 2, api.Slot{}, api.OK, api.Seg{Class: 2, Used: 1}},
		{[]api.Seg{{Class: 3, Used: 255}, {Class: 3, Used: 127}}, 3, api.Slot{Seg: 1, At: 7}, api.OK, api.Seg{Class: 3, Used: 255}},
		{[]api.Seg{{Class: 3, Used: 255}, {Class: 2, Used: 1}}, 3, api.Slot{}, api.ErrRoom, api.Seg{}},
		{[]api.Seg{{Class: 0, Used: math.MaxUint64}}, 0, api.Slot{}, api.ErrRoom, api.Seg{}},
		{[]api.Seg{{Class: 0, Used: math.MaxUint64 >> 1}}, 0, api.Slot{At: 63}, api.OK, api.Seg{Class: 0, Used: math.MaxUint64}},
		{[]api.Seg{{Class: 1, Used: 1<<32 - 1}, free, {Class: 1, Used: 6}, {Class: 1, Used: 1}}, 1, api.Slot{Seg: 2}, api.OK, api.Seg{Class: 1, Used: 7}},
	} {
		kept := slices.Clone(c.l)
		got, slot, e := arena.Take(c.l, c.c)
		want := slices.Clone(c.l)
		if c.e == api.OK {
			want[c.slot.Seg] = c.seg
		}
		if slot != c.slot || e != c.e || !slices.Equal(got, want) || !slices.Equal(c.l, kept) {
			t.Errorf("%d: %v, %v, %d", i, got, slot, e)
		}
	}
	for i, l := range wrong() {
		if got, slot, e := arena.Take(l, 0); !slices.Equal(got, l) || slot != (api.Slot{}) || e != api.ErrNone {
			t.Errorf("%d: %v, %v, %d", i, got, slot, e)
		}
	}
}

func TestP11_2Example(t *testing.T) {
	l, _ := arena.New(2)
	for i, c := range []struct {
		class int
		want  api.Slot
	}{{3, api.Slot{}}, {0, api.Slot{Seg: 1}}, {3, api.Slot{At: 1}}} {
		var slot api.Slot
		if l, slot, _ = arena.Take(l, c.class); slot != c.want {
			t.Errorf("%d: %v", i, slot)
		}
	}
}

func TestP11_3(t *testing.T) {
	l := []api.Seg{{Class: 3, Used: 1}, free, {Class: 0, Used: 3 << 62}}
	for i, c := range []struct {
		slot api.Slot
		e    api.Errno
		want []api.Seg
	}{
		{api.Slot{}, api.OK, []api.Seg{free, free, l[2]}},
		{api.Slot{Seg: 2, At: 63}, api.OK, []api.Seg{l[0], free, {Class: 0, Used: 1 << 62}}},
		{api.Slot{Seg: 1}, api.ErrNone, l},
		{api.Slot{At: 1}, api.ErrNone, l},
		{api.Slot{Seg: 3}, api.ErrNone, l},
		{api.Slot{Seg: -1}, api.ErrNone, l},
		{api.Slot{Seg: 2, At: 64}, api.ErrNone, l},
		{api.Slot{At: -64}, api.ErrNone, l},
	} {
		kept := slices.Clone(l)
		if got, e := arena.Free(l, c.slot); e != c.e || !slices.Equal(got, c.want) || !slices.Equal(l, kept) {
			t.Errorf("%d: %v, %d", i, got, e)
		}
	}
	if arena.Taken(l) != 64+16 || arena.Held(l) != 1024 || arena.Taken(nil) != 0 || arena.Held(nil) != 0 {
		t.Errorf("%d taken, %d held", arena.Taken(l), arena.Held(l))
	}
	for i, l := range wrong() {
		got, e := arena.Free(l, api.Slot{})
		if !slices.Equal(got, l) || e != api.ErrNone || arena.Taken(l) != 0 || arena.Held(l) != 0 {
			t.Errorf("%d: %v, %d", i, got, e)
		}
	}
}

func TestP11Memory(t *testing.T) {
	l := []api.Seg{{Class: 3, Used: 1}, free}
	got := [][]api.Seg{}
	add := func(x []api.Seg) { got = append(got, x) }
	x, _, _ := arena.Take(l, 3)
	add(x)
	x, _, _ = arena.Take(l, 9)
	add(x)
	x, _ = arena.Free(l, api.Slot{})
	add(x)
	x, _ = arena.Free(l, api.Slot{Seg: 1})
	add(x)
	for i := range got {
		got[i][0].Used = 77
	}
	if l[0].Used != 1 {
		t.Error("an answer shares memory with what was handed in")
	}
}

func TestP11_4(t *testing.T) {
	r := rand.New(rand.NewSource(20))
	for range 40 {
		n := r.Intn(6)
		l, _ := arena.New(n)
		taken := map[api.Slot]int{}
		for range 400 {
			if c := r.Intn(4); r.Intn(3) > 0 {
				got, slot, e := arena.Take(l, c)
				if _, twice := taken[slot]; twice && e == api.OK {
					t.Fatalf("%v is taken twice", slot)
				}
				room := false
				for _, s := range l {
					room = room || s.Class == -1
				}
				for i, s := range l {
					for at := range class.Slots(c) {
						room = room || s.Class == c && !arena.Has(l, api.Slot{Seg: i, At: at})
					}
				}
				if (e == api.OK) != room {
					t.Fatalf("room of %v for %d: %d", l, c, e)
				}
				if back, f := arena.Free(got, slot); e == api.OK && (f != api.OK || !slices.Equal(back, l)) {
					t.Fatalf("%v, taken and given back: %v", l, back)
				}
				if e == api.OK {
					l, taken[slot] = got, c
				}
			} else {
				for slot := range taken {
					l, _ = arena.Free(l, slot)
					delete(taken, slot)
					break
				}
			}
			bytes, segs := 0, map[int]bool{}
			for slot, c := range taken {
				bytes, segs[slot.Seg] = bytes+class.Bytes(c), true
				if !arena.Has(l, slot) {
					t.Fatalf("%v is lost", slot)
				}
			}
			if !arena.Check(l) || arena.Taken(l) != bytes || arena.Held(l) != 512*len(segs) {
				t.Fatalf("%v: %d, %d", l, arena.Taken(l), arena.Held(l))
			}
		}
	}
}
