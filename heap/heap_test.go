package heap_test

import (
	"math"
	"math/rand"
	"slices"
	"testing"

	"linhay/api"
	"linhay/heap"
)

// ahead tells whether a stands ahead of b, as the chapter says it.
func ahead(a, b api.Item) bool {
	if a.Pri != b.Pri {
		return a.Pri < b.Pri
	}
	if a.Seq != b.Seq {
		return a.Seq < b.Seq
	}
	return a.ID < b.ID
}

// ordered are the items of a map, in order.
func ordered(m map[int]api.Item) []api.Item {
	var out []api.Item
	for _, x := range m {
		out = append(out, x)
	}
	slices.SortFunc(out, func(a, b api.Item) int {
		if ahead(a, b) {
			return -1
		}
		return 1
	})
	return out
}

// wrong are heaps that may not be.
func wrong() [][]api.Item {
	long := make([]api.Item, 65)
	for i := range long {
		long[i].ID = i
	}
	return [][]api.Item{
		long,
		{{ID: -1}},
		{{ID: 64}},
		{{ID: math.MinInt}},
		{{ID: math.MaxInt}},
		{{ID: 1}, {ID: 1}},
		{{ID: 1, Pri: 1}, {ID: 2, Pri: 2}, {ID: 1, Pri: 3}},
		{{ID: 1, Pri: 2}, {ID: 2, Pri: 1}},
		{{ID: 1, Seq: 2}, {ID: 2, Seq: 1}},
		{{ID: 2}, {ID: 1}},
		{{ID: 0, Pri: 1}, {ID: 1, Pri: 5}, {ID: 2, Pri: 5}, {ID: 3, Pri: 5}, {ID: 4, Pri: 5}, {ID: 5, Pri: 4}},
		{{ID: 0, Pri: 1}, {ID: 1, Pri: 2}, {ID: 2, Pri: 2}, {ID: 3, Pri: 2}, {ID: 4}},
	}
}

func TestP14_1Check(t *testing.T) {
	for i, h := range wrong() {
		if heap.Check(h) {
			t.Errorf("%d may not be", i)
		}
	}
	long := make([]api.Item, 64)
	for i := range long {
		long[i].ID = i
	}
	for i, h := range [][]api.Item{
		nil, {}, long,
		{{ID: 63, Pri: math.MaxUint64}},
		{{ID: 0, Pri: 1}, {ID: 1, Pri: 5}, {ID: 2, Pri: 3}, {ID: 3, Pri: 3}, {ID: 4, Pri: 3}, {ID: 5, Pri: 5}, {ID: 6, Pri: 6}, {ID: 7, Pri: 5}, {ID: 8, Pri: 5}, {ID: 9, Pri: 3}},
		{{ID: 9, Pri: 1}, {ID: 8, Pri: 1, Seq: 1}, {ID: 7, Pri: 2}},
	} {
		if !heap.Check(h) {
			t.Errorf("%d may be", i)
		}
	}
}

func TestP14_1Less(t *testing.T) {
	var l []api.Item
	for _, id := range []int{math.MinInt, -1, 0, 5, math.MaxInt} {
		for _, pri := range []uint64{0, 1, math.MaxUint64} {
			for _, seq := range []uint64{0, 1, math.MaxUint64} {
				l = append(l, api.Item{ID: id, Pri: pri, Seq: seq})
			}
		}
	}
	for _, a := range l {
		for _, b := range l {
			if heap.Less(a, b) != ahead(a, b) {
				t.Errorf("Less(%v, %v)", a, b)
			}
		}
	}
}

func TestP14Wrong(t *testing.T) {
	for i, h := range wrong() {
		for _, id := range []int{1, 63, 64, -1} {
			if got, e := heap.Set(h, api.Item{ID: id}); !slices.Equal(got, h) || e != api.ErrNone {
				t.Errorf("%d: Set: %d", i, e)
			}
			if got, e := heap.Drop(h, id); !slices.Equal(got, h) || e != api.ErrNone {
				t.Errorf("%d: Drop: %d", i, e)
			}
			if x, ok := heap.Find(h, id); x != (api.Item{}) || ok {
				t.Errorf("%d: Find: %v", i, x)
			}
		}
		if x, ok := heap.Min(h); x != (api.Item{}) || ok {
			t.Errorf("%d: Min: %v", i, x)
		}
		if l := heap.Sorted(h); len(l) != 0 {
			t.Errorf("%d: Sorted: %v", i, l)
		}
	}
}

func TestP14_2Edges(t *testing.T) {
	h := []api.Item{{ID: 3, Pri: 7}, {ID: 5, Pri: 7}, {ID: 9, Pri: 8}}
	kept := slices.Clone(h)
	for _, id := range []int{-1, 64, math.MinInt, math.MaxInt} {
		if got, e := heap.Set(h, api.Item{ID: id, Pri: 1}); !slices.Equal(got, h) || e != api.ErrRoom {
			t.Errorf("Set of %d: %d", id, e)
		}
		if got, e := heap.Drop(h, id); !slices.Equal(got, h) || e != api.ErrNone {
			t.Errorf("Drop of %d: %d", id, e)
		}
		if x, ok := heap.Find(h, id); x != (api.Item{}) || ok {
			t.Errorf("Find of %d: %v", id, x)
		}
	}
	if x, ok := heap.Min(nil); x != (api.Item{}) || ok {
		t.Errorf("Min of nothing: %v", x)
	}
	if got, e := heap.Drop(nil, 0); len(got) != 0 || e != api.ErrNone {
		t.Errorf("Drop of nothing: %d", e)
	}
	a, _ := heap.Set(h, api.Item{ID: 3, Pri: 9})
	b, _ := heap.Drop(h, 3)
	c, _ := heap.Drop(h, 7)
	d, _ := heap.Set(h, api.Item{ID: 64})
	for _, x := range [][]api.Item{a, b, c, d, heap.Sorted(h)} {
		x[0].Seq = 77
	}
	if !slices.Equal(h, kept) {
		t.Error("what was handed in is changed")
	}
	// Room behind the end is not written to.
	spare := make([]api.Item, 1, 4)
	if heap.Set(spare, api.Item{ID: 9, Pri: 4}); spare[:2][1] != (api.Item{}) {
		t.Error("spare room is changed")
	}
}

func TestP14_2Example(t *testing.T) {
	var h []api.Item
	for _, x := range []api.Item{{ID: 5, Pri: 7}, {ID: 3, Pri: 7}, {ID: 9, Pri: 8}} {
		h, _ = heap.Set(h, x)
	}
	if x, ok := heap.Min(h); x.ID != 3 || !ok {
		t.Errorf("the example's item: %v", x)
	}
}

func TestP14_3(t *testing.T) {
	r := rand.New(rand.NewSource(25))
	for range 60 {
		var h []api.Item
		model := map[int]api.Item{}
		for range 300 {
			id := r.Intn(64)
			had, has := model[id]
			if x, ok := heap.Find(h, id); x != had || ok != has {
				t.Fatalf("Find(%d) = %v, %v", id, x, ok)
			}
			var e api.Errno
			if r.Intn(3) > 0 {
				x := api.Item{ID: id, Pri: uint64(r.Intn(10)), Seq: uint64(r.Intn(10))}
				h, e = heap.Set(h, x)
				model[id] = x
				if e != api.OK {
					t.Fatalf("Set: %d", e)
				}
			} else {
				h, e = heap.Drop(h, id)
				delete(model, id)
				if (e == api.OK) != has {
					t.Fatalf("Drop: %d", e)
				}
			}
			want := ordered(model)
			if !heap.Check(h) || !slices.Equal(heap.Sorted(h), want) {
				t.Fatalf("%v tells %v", h, heap.Sorted(h))
			}
			x, ok := heap.Min(h)
			if ok != (len(want) > 0) || ok && x != want[0] {
				t.Fatalf("Min: %v", x)
			}
		}
	}
}
