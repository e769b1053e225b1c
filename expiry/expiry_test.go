package expiry_test

import (
	"math"
	"math/rand"
	"slices"
	"testing"

	"linhay/api"
	"linhay/expiry"
)

const end = 1 << 40

func clock(now int, dues ...api.Due) api.Clock { return api.Clock{Now: now, Dues: dues} }

func equal(a, b api.Clock) bool { return a.Now == b.Now && slices.Equal(a.Dues, b.Dues) }

func copied(c api.Clock) api.Clock { return clock(c.Now, slices.Clone(c.Dues)...) }

// wrong are clocks that may not be.
func wrong() []api.Clock {
	return []api.Clock{
		clock(-1),
		clock(math.MinInt),
		clock(end + 1),
		clock(math.MaxInt),
		clock(0, api.Due{ID: -1, At: 5}),
		clock(0, api.Due{ID: 64, At: 5}),
		clock(0, api.Due{ID: 1}),
		clock(5, api.Due{ID: 1, At: 5}),
		clock(5, api.Due{ID: 1, At: 4}),
		clock(5, api.Due{ID: 1, At: -4}),
		clock(5, api.Due{ID: 1, At: end + 1}),
		clock(5, api.Due{ID: 1, At: 6}, api.Due{ID: 1, At: 6}),
		clock(5, api.Due{ID: 2, At: 6}, api.Due{ID: 1, At: 6}),
		clock(5, api.Due{ID: 1, At: 6}, api.Due{ID: 2, At: 6}, api.Due{ID: 64, At: 6}),
		clock(end, api.Due{ID: 1, At: end}),
	}
}

func TestP17_1(t *testing.T) {
	var all []api.Due
	for id := range 64 {
		all = append(all, api.Due{ID: id, At: end - id})
	}
	for i, c := range wrong() {
		if expiry.Check(c) {
			t.Errorf("%d may not be", i)
		}
	}
	for i, c := range []api.Clock{{}, clock(end), clock(end-64, all...), clock(0, api.Due{ID: 3, At: 1}, api.Due{ID: 4, At: 1})} {
		if !expiry.Check(c) {
			t.Errorf("%d may be", i)
		}
	}
	c := clock(10, api.Due{ID: 0, At: 30}, api.Due{ID: 5, At: 20}, api.Due{ID: 63, At: end})
	for id, want := range map[int]int{0: 30, 5: 20, 63: end, 1: 0, -1: 0, 64: 0, math.MinInt: 0} {
		if at, ok := expiry.When(c, id); at != want || ok != (want != 0) {
			t.Errorf("When(%d) = %d, %v", id, at, ok)
		}
	}
	if at, ok := expiry.Next(c); at != 20 || !ok {
		t.Errorf("Next: %d, %v", at, ok)
	}
	if at, ok := expiry.Next(clock(10)); at != 0 || ok {
		t.Errorf("Next of nothing: %d, %v", at, ok)
	}
	if at, ok := expiry.Next(clock(0, api.Due{ID: 0, At: 1})); at != 1 || !ok {
		t.Errorf("Next at the least time: %d, %v", at, ok)
	}
}

func TestP17Wrong(t *testing.T) {
	for i, c := range wrong() {
		for _, id := range []int{1, 64} {
			if got, e := expiry.Set(c, id, 1); !equal(got, c) || e != api.ErrNone {
				t.Errorf("%d: Set: %d", i, e)
			}
			if got, e := expiry.Drop(c, id); !equal(got, c) || e != api.ErrNone {
				t.Errorf("%d: Drop: %d", i, e)
			}
			if at, ok := expiry.When(c, id); at != 0 || ok {
				t.Errorf("%d: When: %d", i, at)
			}
		}
		for _, by := range []int{0, 1, -1} {
			if got, ids, e := expiry.Tick(c, by); !equal(got, c) || len(ids) != 0 || e != api.ErrNone {
				t.Errorf("%d: Tick: %v, %d", i, ids, e)
			}
		}
		if at, ok := expiry.Next(c); at != 0 || ok {
			t.Errorf("%d: Next: %d", i, at)
		}
	}
}

func TestP17_2(t *testing.T) {
	a, b := api.Due{ID: 2, At: 30}, api.Due{ID: 5, At: 20}
	c := clock(10, a, b)
	for i, x := range []struct {
		id, after int
		want      api.Clock
		e         api.Errno
	}{
		{3, 7, clock(10, a, api.Due{ID: 3, At: 17}, b), api.OK},
		{5, 7, clock(10, a, api.Due{ID: 5, At: 17}), api.OK},
		{2, 1, clock(10, api.Due{ID: 2, At: 11}, b), api.OK},
		{0, end - 10, clock(10, api.Due{ID: 0, At: end}, a, b), api.OK},
		{63, 1, clock(10, a, b, api.Due{ID: 63, At: 11}), api.OK},
		{0, end - 9, c, api.ErrTime},
		{0, math.MaxInt, c, api.ErrTime},
		{0, 0, c, api.ErrTime},
		{5, -1, c, api.ErrTime},
		{5, math.MinInt, c, api.ErrTime},
		{64, 0, c, api.ErrRoom},
		{-1, 5, c, api.ErrRoom},
		{math.MinInt, 5, c, api.ErrRoom},
	} {
		kept := copied(c)
		if got, e := expiry.Set(c, x.id, x.after); !equal(got, x.want) || e != x.e || !equal(c, kept) {
			t.Errorf("%d: %v, %d", i, got, e)
		}
	}
	if got, e := expiry.Set(clock(end), 0, 1); !equal(got, clock(end)) || e != api.ErrTime {
		t.Errorf("at the last time: %d", e)
	}
	for id, want := range map[int]api.Clock{2: clock(10, b), 5: clock(10, a)} {
		if got, e := expiry.Drop(c, id); !equal(got, want) || e != api.OK {
			t.Errorf("Drop(%d): %v, %d", id, got, e)
		}
	}
	for _, id := range []int{0, -1, 64, math.MinInt} {
		if got, e := expiry.Drop(c, id); !equal(got, c) || e != api.ErrNone {
			t.Errorf("Drop(%d): %v, %d", id, got, e)
		}
	}
}

func TestP17_3(t *testing.T) {
	l := []api.Due{{ID: 1, At: 30}, {ID: 2, At: 20}, {ID: 3, At: 30}, {ID: 4, At: 20}, {ID: 5, At: 40}}
	c := clock(10, l...)
	for i, x := range []struct {
		by   int
		ids  []int
		want api.Clock
		e    api.Errno
	}{
		{0, nil, c, api.OK},
		{9, nil, clock(19, l...), api.OK},
		{10, []int{2, 4}, clock(20, l[0], l[2], l[4]), api.OK},
		{25, []int{2, 4, 1, 3}, clock(35, l[4]), api.OK},
		{end - 10, []int{2, 4, 1, 3, 5}, clock(end), api.OK},
		{end - 9, nil, c, api.ErrTime},
		{math.MaxInt, nil, c, api.ErrTime},
		{-1, nil, c, api.ErrTime},
		{math.MinInt, nil, c, api.ErrTime},
	} {
		kept := copied(c)
		if got, ids, e := expiry.Tick(c, x.by); !equal(got, x.want) || !slices.Equal(ids, x.ids) || e != x.e || !equal(c, kept) {
			t.Errorf("%d: %v, %v, %d", i, got, ids, e)
		}
	}
	c, _ = expiry.Set(api.Clock{}, 5, 3)
	c, _ = expiry.Set(c, 2, 3)
	c, first, _ := expiry.Tick(c, 2)
	if _, then, _ := expiry.Tick(c, 1); len(first) != 0 || !slices.Equal(then, []int{2, 5}) {
		t.Errorf("the example's clock: %v, %v", first, then)
	}
}

func TestP17Memory(t *testing.T) {
	c := clock(10, api.Due{ID: 1, At: 30}, api.Due{ID: 2, At: 20})
	kept := copied(c)
	a, _ := expiry.Set(c, 64, 1)
	b, _ := expiry.Set(c, 5, 1)
	d, _ := expiry.Drop(c, 9)
	e, _ := expiry.Drop(c, 2)
	f, _, _ := expiry.Tick(c, 0)
	g, _, _ := expiry.Tick(c, -1)
	for _, x := range []api.Clock{a, b, d, e, f, g} {
		x.Dues[0].ID = 77
	}
	if !equal(c, kept) {
		t.Error("an answer shares memory with what was handed in")
	}
}

func TestP17_4(t *testing.T) {
	r := rand.New(rand.NewSource(28))
	for range 60 {
		c, model := api.Clock{}, map[int]int{}
		for range 150 {
			id, n := r.Intn(64), 1+r.Intn(40)
			switch r.Intn(4) {
			case 0, 1:
				c, _ = expiry.Set(c, id, n)
				model[id] = c.Now + n
			case 2:
				_, has := model[id]
				got, e := expiry.Drop(c, id)
				if has != (e == api.OK) {
					t.Fatalf("Drop(%d): %d", id, e)
				}
				c = got
				delete(model, id)
			case 3:
				half, early, _ := expiry.Tick(c, n/3)
				two, late, _ := expiry.Tick(half, n-n/3)
				got, ids, e := expiry.Tick(c, n)
				if e != api.OK || !equal(got, two) || !slices.Equal(ids, slices.Concat(early, late)) {
					t.Fatalf("two ticks tell %v, %v, one %v", early, late, ids)
				}
				var want []int
				for at := c.Now + 1; at <= got.Now; at++ {
					for id := range 64 {
						if model[id] == at {
							want = append(want, id)
							delete(model, id)
						}
					}
				}
				if !slices.Equal(ids, want) {
					t.Fatalf("Tick tells %v, not %v", ids, want)
				}
				c = got
			}
			next := 0
			for id, at := range model {
				if got, ok := expiry.When(c, id); got != at || !ok {
					t.Fatalf("When(%d) = %d", id, got)
				}
				if next == 0 || at < next {
					next = at
				}
			}
			if at, ok := expiry.Next(c); at != next || ok != (next > 0) || !expiry.Check(c) || len(c.Dues) != len(model) {
				t.Fatalf("Next: %d, not %d", at, next)
			}
		}
	}
}
