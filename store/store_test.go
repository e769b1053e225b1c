package store_test

import (
	"math"
	"math/rand"
	"slices"
	"strings"
	"testing"

	"linhay/api"
	"linhay/arena"
	"linhay/class"
	"linhay/store"
)

func equal(a, b api.Store) bool { return slices.Equal(a.Segs, b.Segs) && a.Bytes == b.Bytes }

func zeros(n int) string { return strings.Repeat("\x00", n) }

func text(r *rand.Rand, n int) string {
	b := make([]byte, n)
	r.Read(b)
	return string(b)
}

// set is s with one byte more at a place.
func set(s string, at int) string {
	b := []byte(s)
	b[at]++
	return string(b)
}

// wrong are stores that may not be.
func wrong() []api.Store {
	free := api.Seg{Class: -1}
	two := []api.Seg{{Class: 2, Used: 2}, free}
	return []api.Store{
		{Bytes: "x"},
		{Segs: []api.Seg{free}},
		{Segs: []api.Seg{free}, Bytes: zeros(511)},
		{Segs: []api.Seg{free}, Bytes: zeros(513)},
		{Segs: []api.Seg{{Class: 3}}, Bytes: zeros(512)},
		{Segs: slices.Repeat([]api.Seg{free}, 201), Bytes: zeros(201 * 512)},
		{Segs: two, Bytes: set(zeros(1024), 31)},
		{Segs: two, Bytes: set(zeros(1024), 64)},
		{Segs: two, Bytes: set(zeros(1024), 511)},
		{Segs: two, Bytes: set(zeros(1024), 512)},
		{Segs: two, Bytes: set(zeros(1024), 1023)},
	}
}

func TestP12_1New(t *testing.T) {
	for _, n := range []int{0, 1, 5, 200} {
		segs, _ := arena.New(n)
		if s, e := store.New(n); e != api.OK || !equal(s, api.Store{Segs: segs, Bytes: zeros(512 * n)}) || !store.Check(s) {
			t.Errorf("New(%d): %d segments, %d bytes, %d", n, len(s.Segs), len(s.Bytes), e)
		}
	}
	for _, n := range []int{-1, 201, math.MinInt, math.MaxInt} {
		if s, e := store.New(n); e != api.ErrRoom || !equal(s, api.Store{}) {
			t.Errorf("New(%d): %d segments, %d", n, len(s.Segs), e)
		}
	}
}

func TestP12_1Check(t *testing.T) {
	for i, s := range wrong() {
		if store.Check(s) {
			t.Errorf("%d may not be", i)
		}
	}
	two := []api.Seg{{Class: 2, Used: 2}, {Class: -1}}
	for i, s := range []api.Store{{}, {Segs: two, Bytes: zeros(1024)}, {Segs: two, Bytes: set(zeros(1024), 32)}, {Segs: two, Bytes: set(zeros(1024), 63)}} {
		if !store.Check(s) {
			t.Errorf("%d may be", i)
		}
	}
}

func TestP12Wrong(t *testing.T) {
	for i, s := range wrong() {
		if got, l, e := store.Put(s, "x"); !equal(got, s) || len(l) != 0 || e != api.ErrNone {
			t.Errorf("%d: Put: %d", i, e)
		}
		if got, e := store.Get(s, nil, 0); got != "" || e != api.ErrNone {
			t.Errorf("%d: Get: %d", i, e)
		}
		if got, e := store.Drop(s, nil); !equal(got, s) || e != api.ErrNone {
			t.Errorf("%d: Drop: %d", i, e)
		}
		if got, l, e := store.Pack(s, [][]api.Slot{{{At: 1}}}); !equal(got, s) || len(l) != 0 || e != api.ErrNone {
			t.Errorf("%d: Pack: %d", i, e)
		}
	}
}

// put is Put as the chapter says it.
func put(s api.Store, data string) (api.Store, []api.Slot, api.Errno) {
	classes, e := class.Cut(len(data))
	if e != api.OK {
		return s, nil, e
	}
	segs, b, slots := s.Segs, []byte(s.Bytes), []api.Slot(nil)
	for _, c := range classes {
		next, slot, e := arena.Take(segs, c)
		if e != api.OK {
			return s, nil, e
		}
		segs, slots = next, append(slots, slot)
		n := class.Bytes(c)
		part := data[:min(n, len(data))]
		data = data[len(part):]
		copy(b[slot.Seg*512+slot.At*n:], part+zeros(n-len(part)))
	}
	return api.Store{Segs: segs, Bytes: string(b)}, slots, api.OK
}

func TestP12_2(t *testing.T) {
	r := rand.New(rand.NewSource(21))
	for range 30 {
		s, _ := store.New(r.Intn(30))
		for range 40 {
			data := text(r, []int{0, 1, 7, 8, 9, 63, 64, 65, 150, 4096, 4097, r.Intn(4500), r.Intn(200)}[r.Intn(13)])
			kept := api.Store{Segs: slices.Clone(s.Segs), Bytes: s.Bytes}
			want, wantL, wantE := put(s, data)
			got, l, e := store.Put(s, data)
			if !equal(got, want) || !slices.Equal(l, wantL) || e != wantE || !equal(s, kept) {
				t.Fatalf("Put of %d bytes: %v, %d", len(data), l, e)
			}
			s = got
		}
	}
	s, _ := store.New(2)
	s, l, _ := store.Put(s, strings.Repeat("x", 150))
	if !slices.Equal(l, []api.Slot{{}, {At: 1}, {Seg: 1}}) || s.Segs[0].Class != 3 || s.Segs[1].Class != 2 {
		t.Errorf("the example's slots: %v", l)
	}
}

func TestP12_3Get(t *testing.T) {
	s, _ := store.New(4)
	first, second := strings.Repeat("abcdefgh", 20), "0123456789"
	s, l, _ := store.Put(s, first)
	s, m, _ := store.Put(s, second)
	both := slices.Concat(l, m)
	for i, c := range []struct {
		l    []api.Slot
		size int
		want string
		e    api.Errno
	}{
		{l, 160, first, api.OK},
		{l, 161, "", api.ErrNone},
		{l, 150, first[:150], api.OK},
		{l, 0, "", api.OK},
		{l, -1, "", api.ErrNone},
		{l, math.MinInt, "", api.ErrNone},
		{l, math.MaxInt, "", api.ErrNone},
		{m, 16, second + zeros(6), api.OK},
		{m, 17, "", api.ErrNone},
		{nil, 0, "", api.OK},
		{nil, 1, "", api.ErrNone},
		{both, 170, first + second, api.OK},
		{slices.Concat(m, l), 26, second + zeros(6) + first[:10], api.OK},
		{slices.Concat(m, m), 32, second + zeros(6) + second + zeros(6), api.OK},
		{append(slices.Clone(m), api.Slot{Seg: 3}), 1, "", api.ErrNone},
		{append(slices.Clone(m), api.Slot{Seg: -1}), 0, "", api.ErrNone},
		{[]api.Slot{{At: 64}}, 0, "", api.ErrNone},
	} {
		if got, e := store.Get(s, c.l, c.size); got != c.want || e != c.e {
			t.Errorf("%d: %q, %d", i, got, e)
		}
	}
}

func TestP12_3Drop(t *testing.T) {
	s, _ := store.New(4)
	s, l, _ := store.Put(s, strings.Repeat("abcdefgh", 20))
	one, m, _ := store.Put(s, "0123456789")
	for i, bad := range [][]api.Slot{{l[0], l[0]}, {l[0], l[1], m[0], l[1]}, {{Seg: 3}}, {l[0], {Seg: 4}}, {{Seg: -1}}, {{At: 5}}} {
		if got, e := store.Drop(one, bad); !equal(got, one) || e != api.ErrNone {
			t.Errorf("%d: %d", i, e)
		}
	}
	if got, e := store.Drop(one, m); !equal(got, s) || e != api.OK {
		t.Errorf("what was put last: %d", e)
	}
	kept := api.Store{Segs: slices.Clone(one.Segs), Bytes: one.Bytes}
	empty, _ := store.New(4)
	if got, e := store.Drop(one, []api.Slot{m[0], l[2], l[0], l[1]}); !equal(got, empty) || e != api.OK || !equal(one, kept) {
		t.Errorf("all: %d", e)
	}
	if got, e := store.Drop(one, nil); !equal(got, one) || e != api.OK {
		t.Errorf("none: %d", e)
	}
	// One slot alone is wiped; the others stay as they are.
	got, _ := store.Drop(one, l[1:2])
	if got.Bytes != one.Bytes[:64]+zeros(64)+one.Bytes[128:] || !store.Check(got) {
		t.Error("one of several")
	}
}

func TestP12_4Wrong(t *testing.T) {
	s, _ := store.New(4)
	s, l, _ := store.Put(s, strings.Repeat("abcdefgh", 20))
	s, m, _ := store.Put(s, "0123456789")
	for i, bad := range [][][]api.Slot{nil, {l}, {m}, {l, m, m}, {l, {l[0]}, m}, {l, m, {{Seg: 3}}}, {l[1:], m}, {{{Seg: -1}}}} {
		if got, lists, e := store.Pack(s, bad); !equal(got, s) || len(lists) != 0 || e != api.ErrNone {
			t.Errorf("%d: %v, %d", i, lists, e)
		}
	}
	for i, good := range [][][]api.Slot{{l, m}, {m, l}, {l, nil, m}, {{m[0], l[2]}, {l[1]}, {}, {l[0]}}} {
		if _, lists, e := store.Pack(s, good); len(lists) != len(good) || e != api.OK {
			t.Errorf("%d: %v, %d", i, lists, e)
		}
	}
}

// pack is Pack as the chapter says it, of lists that have just what is taken.
func pack(s api.Store, l [][]api.Slot) (api.Store, [][]api.Slot) {
	segs, _ := arena.New(len(s.Segs))
	b := []byte(zeros(len(s.Bytes)))
	var out [][]api.Slot
	for _, old := range l {
		var fresh []api.Slot
		for _, slot := range old {
			var now api.Slot
			c := s.Segs[slot.Seg].Class
			segs, now, _ = arena.Take(segs, c)
			n := class.Bytes(c)
			copy(b[now.Seg*512+now.At*n:], s.Bytes[slot.Seg*512+slot.At*n:][:n])
			fresh = append(fresh, now)
		}
		out = append(out, fresh)
	}
	return api.Store{Segs: segs, Bytes: string(b)}, out
}

// filled is a store in which objects were put and dropped, those that are left, and their slots.
func filled(r *rand.Rand) (api.Store, []string, [][]api.Slot) {
	s, _ := store.New(1 + r.Intn(30))
	var data []string
	var lists [][]api.Slot
	for range 60 {
		if i := r.Intn(len(data) + 2); i < len(data) {
			s, _ = store.Drop(s, lists[i])
			data, lists = slices.Delete(data, i, i+1), slices.Delete(lists, i, i+1)
			continue
		}
		x := text(r, 1+r.Intn(200))
		got, l, e := store.Put(s, x)
		if e == api.OK {
			s, data, lists = got, append(data, x), append(lists, l)
		}
	}
	return s, data, lists
}

func TestP12_4(t *testing.T) {
	r := rand.New(rand.NewSource(22))
	for range 100 {
		s, data, lists := filled(r)
		kept := api.Store{Segs: slices.Clone(s.Segs), Bytes: s.Bytes}
		want, wantL := pack(s, lists)
		got, l, e := store.Pack(s, lists)
		if e != api.OK || !equal(got, want) || len(l) != len(wantL) || !equal(s, kept) {
			t.Fatalf("%v: %d", lists, e)
		}
		for i := range l {
			if x, e := store.Get(got, l[i], len(data[i])); !slices.Equal(l[i], wantL[i]) || x != data[i] || e != api.OK {
				t.Fatalf("the list %d: %v, %q, %d", i, l[i], x, e)
			}
		}
		if arena.Held(got.Segs) > arena.Held(s.Segs) || arena.Taken(got.Segs) != arena.Taken(s.Segs) || !store.Check(got) {
			t.Fatalf("%d bytes were held, %d are", arena.Held(s.Segs), arena.Held(got.Segs))
		}
	}
}

func TestP12_5(t *testing.T) {
	r := rand.New(rand.NewSource(23))
	for range 100 {
		s, data, lists := filled(r)
		for i := range data {
			if x, e := store.Get(s, lists[i], len(data[i])); x != data[i] || e != api.OK {
				t.Fatalf("what was put: %q, %d", x, e)
			}
		}
		x := text(r, 1+r.Intn(4096))
		got, l, e := store.Put(s, x)
		if e != api.OK {
			continue
		}
		if back, f := store.Drop(got, l); f != api.OK || !equal(back, s) {
			t.Fatalf("what is dropped leaves another store: %d", f)
		}
	}
}

func TestP12Memory(t *testing.T) {
	s, _ := store.New(2)
	s, l, _ := store.Put(s, "abc")
	used := s.Segs[0].Used
	lists := [][]api.Slot{l}
	a, _, _ := store.Put(s, "")
	b, _ := store.Drop(s, []api.Slot{{Seg: 1}})
	c, fresh, _ := store.Pack(s, lists)
	d, _, _ := store.Pack(s, nil)
	for _, x := range []api.Store{a, b, c, d} {
		x.Segs[0].Used = 77
	}
	fresh[0][0].At = 77
	if s.Segs[0].Used != used || l[0].At != 0 {
		t.Error("an answer shares memory with what was handed in")
	}
}
