package list_test

import (
	"math"
	"math/rand"
	"slices"
	"testing"

	"linhay/api"
	"linhay/list"
)

// told is what tells the numbers, as the chapter says it.
func told(order []int) api.List {
	l := api.List{Head: -1, Tail: -1}
	for i := range 64 {
		l.Next[i], l.Prev[i] = -1, -1
	}
	for i, id := range order {
		l.In[id] = true
		if i > 0 {
			l.Prev[id] = order[i-1]
		}
		if i+1 < len(order) {
			l.Next[id] = order[i+1]
		}
	}
	if len(order) > 0 {
		l.Head, l.Tail = order[0], order[len(order)-1]
	}
	return l
}

func all() []int {
	out := make([]int, 64)
	for i := range out {
		out[i] = i
	}
	return out
}

// changed is a list with something of it changed.
func changed(order []int, change func(l *api.List)) api.List {
	l := told(order)
	change(&l)
	return l
}

// wrong tell no list.
func wrong() []api.List {
	three := []int{5, 0, 9}
	return []api.List{
		{},
		changed(nil, func(l *api.List) { l.Head = 0 }),
		changed(nil, func(l *api.List) { l.Tail = 3 }),
		changed(nil, func(l *api.List) { l.In[3] = true }),
		changed(nil, func(l *api.List) { l.Next[7] = 0 }),
		changed(nil, func(l *api.List) { l.Prev[63] = 0 }),
		changed(nil, func(l *api.List) { l.Head, l.Tail = -2, -2 }),
		changed(three, func(l *api.List) { l.In[9] = false }),
		changed(three, func(l *api.List) { l.In[10] = true }),
		changed(three, func(l *api.List) { l.Next[9] = 5 }),
		changed(three, func(l *api.List) { l.Next[9] = 9 }),
		changed(three, func(l *api.List) { l.Next[9] = math.MaxInt }),
		changed(three, func(l *api.List) { l.Next[9] = -2 }),
		changed(three, func(l *api.List) { l.Next[5] = 9 }),
		changed(three, func(l *api.List) { l.Next[5] = math.MinInt }),
		changed(three, func(l *api.List) { l.Prev[5] = 9 }),
		changed(three, func(l *api.List) { l.Prev[9] = 5 }),
		changed(three, func(l *api.List) { l.Head = 0 }),
		changed(three, func(l *api.List) { l.Head = 64 }),
		changed(three, func(l *api.List) { l.Tail = 0 }),
		changed(three, func(l *api.List) { l.Tail = -1 }),
		changed(three, func(l *api.List) { l.Prev[1] = 5 }),
		changed(all(), func(l *api.List) { l.Next[63] = 0; l.Prev[0] = 63 }),
	}
}

func TestP15_1(t *testing.T) {
	if list.New() != told(nil) {
		t.Error("the empty list")
	}
	for _, l := range [][]int{nil, {}, {0}, {63}, {5, 0, 9}, {9, 0, 5}, all()} {
		kept := slices.Clone(l)
		got, e := list.Of(l)
		if got != told(l) || e != api.OK || !slices.Equal(l, kept) {
			t.Errorf("Of(%v): %d", l, e)
		}
		if order, ok := list.Order(got); !ok || !slices.Equal(order, l) {
			t.Errorf("Order of %v: %v, %v", l, order, ok)
		}
	}
	for _, l := range [][]int{{-1}, {64}, {math.MinInt}, {math.MaxInt}, {1, 1}, {1, 2, 3, 1}, append(all(), 0), {5, 64}} {
		if got, e := list.Of(l); got != told(nil) || e != api.ErrRoom {
			t.Errorf("Of(%v): %d", l, e)
		}
	}
	for i, l := range wrong() {
		if order, ok := list.Order(l); len(order) != 0 || ok {
			t.Errorf("%d tells %v", i, order)
		}
	}
}

func TestP15_2(t *testing.T) {
	for _, c := range []struct {
		l    []int
		id   int
		want []int
	}{{nil, 3, []int{3}}, {[]int{1, 2, 3}, 1, []int{1, 2, 3}}, {[]int{1, 2, 3}, 2, []int{2, 1, 3}}, {[]int{1, 2, 3}, 3, []int{3, 1, 2}}, {[]int{1, 2, 3}, 63, []int{63, 1, 2, 3}}} {
		if got, e := list.Touch(told(c.l), c.id); got != told(c.want) || e != api.OK {
			t.Errorf("Touch(%v, %d): %d", c.l, c.id, e)
		}
	}
	for _, c := range []struct {
		l    []int
		id   int
		want []int
	}{{[]int{3}, 3, nil}, {[]int{1, 2, 3}, 1, []int{2, 3}}, {[]int{1, 2, 3}, 2, []int{1, 3}}, {[]int{1, 2, 3}, 3, []int{1, 2}}} {
		if got, e := list.Drop(told(c.l), c.id); got != told(c.want) || e != api.OK {
			t.Errorf("Drop(%v, %d): %d", c.l, c.id, e)
		}
	}
	if id, ok := list.Last(told([]int{4, 8, 2})); id != 2 || !ok {
		t.Errorf("Last: %d", id)
	}
	if id, ok := list.Last(told(nil)); id != 0 || ok {
		t.Errorf("Last of nothing: %d", id)
	}
}

func TestP15_2Wrong(t *testing.T) {
	l := told([]int{1, 2, 3})
	for _, id := range []int{-1, 64, math.MinInt, math.MaxInt} {
		if got, e := list.Touch(l, id); got != l || e != api.ErrRoom {
			t.Errorf("Touch of %d: %d", id, e)
		}
		if got, e := list.Drop(l, id); got != l || e != api.ErrNone {
			t.Errorf("Drop of %d: %d", id, e)
		}
	}
	if got, e := list.Drop(l, 4); got != l || e != api.ErrNone {
		t.Errorf("Drop of what is not there: %d", e)
	}
	for i, l := range wrong() {
		for _, id := range []int{0, 5, -1, 64} {
			if got, e := list.Touch(l, id); got != l || e != api.ErrNone {
				t.Errorf("%d: Touch: %d", i, e)
			}
			if got, e := list.Drop(l, id); got != l || e != api.ErrNone {
				t.Errorf("%d: Drop: %d", i, e)
			}
		}
		if id, ok := list.Last(l); id != 0 || ok {
			t.Errorf("%d: Last: %d", i, id)
		}
	}
}

func TestP15_3(t *testing.T) {
	l := list.New()
	for _, id := range []int{1, 2, 3, 1} {
		l, _ = list.Touch(l, id)
	}
	if order, _ := list.Order(l); !slices.Equal(order, []int{1, 3, 2}) {
		t.Errorf("the example's order: %v", order)
	}
	r := rand.New(rand.NewSource(26))
	for range 30 {
		l, model := list.New(), []int(nil)
		for range 400 {
			id := r.Intn(64)
			has := slices.Contains(model, id)
			rest := slices.DeleteFunc(slices.Clone(model), func(x int) bool { return x == id })
			var e api.Errno
			if r.Intn(3) > 0 {
				l, e = list.Touch(l, id)
				model = append([]int{id}, rest...)
				if l.Head != id || !l.In[id] || e != api.OK {
					t.Fatalf("%d is touched, and not first: %d", id, e)
				}
			} else {
				l, e = list.Drop(l, id)
				model = rest
				if l.In[id] || has != (e == api.OK) {
					t.Fatalf("%d is dropped: %d", id, e)
				}
			}
			if l != told(model) {
				t.Fatalf("%v is not told", model)
			}
		}
	}
	// Touched by turns: the last one each time, and all stand as they did.
	l = told([]int{7, 8, 9})
	for range 3 {
		id, _ := list.Last(l)
		l, _ = list.Touch(l, id)
	}
	if l != told([]int{7, 8, 9}) {
		t.Error("what is touched by turns does not go round")
	}
}
