package table_test

import (
	"math/rand"
	"slices"
	"strconv"
	"strings"
	"testing"

	"linhay/api"
	"linhay/table"
	"linhay/thing"
)

// at are n keys whose home is the place p.
func at(p, n int) []string {
	var out []string
	for i := 0; len(out) < n; i++ {
		if k := "k" + strconv.Itoa(i); thing.Home(k, api.Places) == p {
			out = append(out, k)
		}
	}
	return out
}

// laid is a table of these places alone.
func laid(places map[int]api.Place) []api.Place {
	l := make([]api.Place, api.Places)
	for i, p := range places {
		l[i] = p
	}
	return l
}

// filled is a table of n keys, whose numbers are their places among them.
func filled(n int) []api.Place {
	l := table.New()
	for i := range n {
		l, _ = table.Put(l, "f"+strconv.Itoa(i), i)
	}
	return l
}

// wrong are tables that may not be.
func wrong() [][]api.Place {
	k, last := at(5, 3), at(127, 2)
	long := strings.Repeat("x", 17)
	over := filled(96)
	for i := range over {
		if over[i].Key == "" {
			for _, x := range at(i, 1) {
				over[i].Key = x
			}
			break
		}
	}
	return [][]api.Place{
		nil,
		make([]api.Place, 127),
		make([]api.Place, 129),
		laid(map[int]api.Place{7: {Val: 1}}),
		laid(map[int]api.Place{thing.Home(long, 128): {Key: long}}),
		laid(map[int]api.Place{6: {Key: k[0]}}),
		laid(map[int]api.Place{5: {Key: k[0]}, 6: {Key: k[0]}}),
		laid(map[int]api.Place{5: {Key: k[0]}, 6: {Key: k[1]}, 8: {Key: k[2]}}),
		laid(map[int]api.Place{4: {Key: k[0]}}),
		laid(map[int]api.Place{0: {Key: last[0]}}),
		over,
		slices.Repeat([]api.Place{{Key: "x"}}, 128),
	}
}

func TestP13_1Check(t *testing.T) {
	k, last := at(5, 3), at(127, 2)
	for i, l := range wrong() {
		if table.Check(l) {
			t.Errorf("%d may not be", i)
		}
	}
	for i, l := range [][]api.Place{
		table.New(),
		laid(map[int]api.Place{5: {Key: k[0]}, 6: {Key: k[1], Val: -7}, 7: {Key: k[2]}}),
		laid(map[int]api.Place{5: {Key: k[1]}, 6: {Key: k[0]}}),
		laid(map[int]api.Place{127: {Key: last[1]}, 0: {Key: last[0]}}),
		filled(96),
	} {
		if !table.Check(l) {
			t.Errorf("%d may be", i)
		}
	}
	if l := table.New(); len(l) != 128 || slices.ContainsFunc(l, func(p api.Place) bool { return p != api.Place{} }) {
		t.Error("a new table")
	}
}

func TestP13Wrong(t *testing.T) {
	for i, l := range wrong() {
		if got, e := table.Put(l, "a", 1); !slices.Equal(got, l) || e != api.ErrNone {
			t.Errorf("%d: Put: %d", i, e)
		}
		for _, k := range []string{"x", "", "f0"} {
			if got, e := table.Del(l, k); !slices.Equal(got, l) || e != api.ErrNone {
				t.Errorf("%d: Del: %d", i, e)
			}
			if n, ok := table.Get(l, k); n != 0 || ok {
				t.Errorf("%d: Get: %d", i, n)
			}
		}
		if keys := table.Keys(l); len(keys) != 0 {
			t.Errorf("%d: Keys: %q", i, keys)
		}
	}
}

func TestP13_1Get(t *testing.T) {
	k := at(5, 3)
	l := laid(map[int]api.Place{5: {Key: k[0], Val: 9}, 6: {Key: k[1], Val: -7}})
	for key, want := range map[string]int{k[0]: 9, k[1]: -7} {
		if n, ok := table.Get(l, key); n != want || !ok {
			t.Errorf("Get(%q) = %d, %v", key, n, ok)
		}
	}
	for _, key := range []string{k[2], "", "other", strings.Repeat("x", 17)} {
		if n, ok := table.Get(l, key); n != 0 || ok {
			t.Errorf("Get(%q) = %d, %v", key, n, ok)
		}
	}
	want := []string{k[0], k[1]}
	slices.Sort(want)
	if keys := table.Keys(l); !slices.Equal(keys, want) {
		t.Errorf("Keys: %q", keys)
	}
}

func TestP13_2(t *testing.T) {
	k, last := at(5, 3), at(127, 3)
	l := laid(map[int]api.Place{5: {Key: k[0], Val: 9}, 6: {Key: k[1], Val: -7}, 127: {Key: last[0]}, 0: {Key: last[1]}})
	for i, c := range []struct {
		k  string
		at int
		e  api.Errno
	}{{k[0], 5, api.OK}, {k[1], 6, api.OK}, {k[2], 7, api.OK}, {last[2], 1, api.OK}, {"", 0, api.ErrKey}, {strings.Repeat("x", 17), 0, api.ErrKey}} {
		kept, want := slices.Clone(l), slices.Clone(l)
		if c.e == api.OK {
			want[c.at] = api.Place{Key: c.k, Val: 33}
		}
		if got, e := table.Put(l, c.k, 33); !slices.Equal(got, want) || e != c.e || !slices.Equal(l, kept) {
			t.Errorf("%d: %d", i, e)
		}
	}
	l, _ = table.Put(table.New(), "a", 5)
	l, _ = table.Put(l, "a", 6)
	if n, ok := table.Get(l, "a"); n != 6 || !ok {
		t.Errorf("the example's number: %d", n)
	}
}

func TestP13_2Full(t *testing.T) {
	if l := filled(95); len(table.Keys(l)) != 95 {
		t.Fatal("95 keys")
	}
	l := filled(96)
	if len(table.Keys(l)) != 96 {
		t.Fatal("96 keys")
	}
	if got, e := table.Put(l, "more", 1); !slices.Equal(got, l) || e != api.ErrRoom {
		t.Errorf("a key too many: %d", e)
	}
	if _, e := table.Put(l, "", 1); e != api.ErrKey {
		t.Errorf("no key, and no room: %d", e)
	}
	got, e := table.Put(l, "f7", 70)
	if n, _ := table.Get(got, "f7"); n != 70 || e != api.OK {
		t.Errorf("a key that is there: %d, %d", n, e)
	}
}

// del is Del as the chapter says it, of a key that has a place.
func del(l []api.Place, k string) []api.Place {
	l = slices.Clone(l)
	p := slices.IndexFunc(l, func(x api.Place) bool { return x.Key == k })
	l[p] = api.Place{}
	for p = (p + 1) % 128; l[p].Key != ""; p = (p + 1) % 128 {
		x := l[p]
		l[p] = api.Place{}
		q := thing.Home(x.Key, 128)
		for l[q].Key != "" {
			q = (q + 1) % 128
		}
		l[q] = x
	}
	return l
}

func TestP13_3(t *testing.T) {
	k, next, last := at(5, 3), at(6, 1), at(127, 3)
	l := laid(map[int]api.Place{
		5: {Key: k[0], Val: 1}, 6: {Key: next[0], Val: 2}, 7: {Key: k[1], Val: 3}, 8: {Key: k[2], Val: 4},
		127: {Key: last[0], Val: 5}, 0: {Key: last[1], Val: 6}, 1: {Key: last[2], Val: 7},
	})
	for _, p := range l {
		if p.Key == "" {
			continue
		}
		kept := slices.Clone(l)
		if got, e := table.Del(l, p.Key); !slices.Equal(got, del(l, p.Key)) || e != api.OK || !slices.Equal(l, kept) || !table.Check(got) {
			t.Errorf("Del(%q): %d", p.Key, e)
		}
	}
	for _, key := range []string{"", "other", strings.Repeat("x", 17)} {
		if got, e := table.Del(l, key); !slices.Equal(got, l) || e != api.ErrNone {
			t.Errorf("Del(%q): %d", key, e)
		}
	}
	got, _ := table.Del(l, k[0])
	if got[5].Key != k[1] || got[6].Key != next[0] || got[7].Key != k[2] || got[8].Key != "" {
		t.Error("who stands behind does not come up")
	}
}

func TestP13_4(t *testing.T) {
	r := rand.New(rand.NewSource(24))
	for range 20 {
		l, model := table.New(), map[string]int{}
		for range 600 {
			k, val := "k"+strconv.Itoa(r.Intn(130)), r.Intn(100)-50
			_, has := model[k]
			if r.Intn(5) > 1 {
				got, e := table.Put(l, k, val)
				if room := has || len(model) < 96; room != (e == api.OK) {
					t.Fatalf("Put among %d: %d", len(model), e)
				} else if room {
					model[k] = val
				}
				l = got
			} else {
				got, e := table.Del(l, k)
				if has != (e == api.OK) || has && !slices.Equal(got, del(l, k)) {
					t.Fatalf("Del(%q): %d", k, e)
				}
				delete(model, k)
				l = got
			}
			if n, ok := table.Get(l, k); ok != (len(model) > 0 && slices.Contains(table.Keys(l), k)) || n != model[k] {
				t.Fatalf("Get(%q) = %d, %v", k, n, ok)
			}
		}
		var keys []string
		for k, want := range model {
			if n, ok := table.Get(l, k); n != want || !ok {
				t.Fatalf("Get(%q) = %d, %v", k, n, ok)
			}
			keys = append(keys, k)
		}
		other := table.New()
		for _, k := range keys {
			other, _ = table.Put(other, k, model[k])
		}
		slices.Sort(keys)
		if !slices.Equal(table.Keys(l), keys) || !slices.Equal(table.Keys(other), keys) || !table.Check(l) {
			t.Fatal("the keys in another order")
		}
	}
}

func TestP13Memory(t *testing.T) {
	l := filled(3)
	kept := slices.Clone(l)
	a, _ := table.Put(l, "", 1)
	b, _ := table.Put(l, "f0", 1)
	c, _ := table.Del(l, "none")
	for _, x := range [][]api.Place{a, b, c} {
		for i := range x {
			x[i].Val = 77
		}
	}
	if !slices.Equal(l, kept) {
		t.Error("an answer shares memory with what was handed in")
	}
}
