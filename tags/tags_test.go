package tags_test

import (
	"math"
	"math/rand"
	"slices"
	"strings"
	"testing"

	"linhay/api"
	"linhay/tags"
	"linhay/thing"
)

func equal(a, b []api.Row) bool {
	return slices.EqualFunc(a, b, func(x, y api.Row) bool { return x.Tag == y.Tag && slices.Equal(x.IDs, y.IDs) })
}

func row(tag string, ids ...int) api.Row { return api.Row{Tag: tag, IDs: ids} }

func copied(l []api.Row) []api.Row {
	var out []api.Row
	for _, r := range l {
		out = append(out, row(r.Tag, slices.Clone(r.IDs)...))
	}
	return out
}

// wrong are rows that may not be.
func wrong() [][]api.Row {
	return [][]api.Row{
		{row("")},
		{row("", 1)},
		{row(strings.Repeat("t", 9), 1)},
		{row("a")},
		{row("a", -1)},
		{row("a", 64)},
		{row("a", math.MinInt)},
		{row("a", math.MaxInt)},
		{row("a", 1, 1)},
		{row("a", 2, 1)},
		{row("b", 1), row("a", 1)},
		{row("a", 1), row("a", 2)},
		{row("a", 1), row("b", 1), row("c", 1), row("d", 0, 1)},
		{row("a", 1), row("b")},
	}
}

func TestP16_1Check(t *testing.T) {
	for i, l := range wrong() {
		if tags.Check(l) {
			t.Errorf("%d may not be", i)
		}
	}
	var all []int
	for id := range 64 {
		all = append(all, id)
	}
	for i, l := range [][]api.Row{nil, {}, {row("a", 0, 63)}, {row("\x00", 1), row("\x00\x00", 1), row("\xff", 1)}, {row("a", all...), row("b", all...), row(strings.Repeat("t", 8), all...)}} {
		if !tags.Check(l) {
			t.Errorf("%d may be", i)
		}
	}
}

func TestP16Wrong(t *testing.T) {
	for i, l := range wrong() {
		if got, e := tags.Add(l, 1, []string{"x"}); !equal(got, l) || e != api.ErrNone {
			t.Errorf("%d: Add: %d", i, e)
		}
		if got := tags.Drop(l, 1); !equal(got, l) {
			t.Errorf("%d: Drop: %v", i, got)
		}
		if ids, own := tags.Of(l, "a"), tags.Tags(l, 1); len(ids) != 0 || len(own) != 0 {
			t.Errorf("%d: %v, %v", i, ids, own)
		}
	}
}

func TestP16_1(t *testing.T) {
	l := []api.Row{row("a", 0, 5), row("b", 5), row("c", 5, 63)}
	for tag, want := range map[string][]int{"a": {0, 5}, "b": {5}, "c": {5, 63}, "d": nil, "": nil, strings.Repeat("t", 9): nil} {
		if ids := tags.Of(l, tag); !slices.Equal(ids, want) {
			t.Errorf("Of(%q) = %v", tag, ids)
		}
	}
	for id, want := range map[int][]string{0: {"a"}, 5: {"a", "b", "c"}, 63: {"c"}, 1: nil, -1: nil, 64: nil, math.MinInt: nil} {
		if own := tags.Tags(l, id); !slices.Equal(own, want) {
			t.Errorf("Tags(%d) = %q", id, own)
		}
	}
}

func TestP16_2(t *testing.T) {
	l := []api.Row{row("a", 0, 5), row("b", 5), row("c", 5, 63)}
	for i, c := range []struct {
		id   int
		tags []string
		want []api.Row
		e    api.Errno
	}{
		{5, nil, []api.Row{row("a", 0), row("c", 63)}, api.OK},
		{5, []string{"b", "a", "b"}, []api.Row{row("a", 0, 5), row("b", 5), row("c", 63)}, api.OK},
		{5, []string{"x"}, []api.Row{row("a", 0), row("c", 63), row("x", 5)}, api.OK},
		{7, []string{"c", "B"}, []api.Row{row("B", 7), row("a", 0, 5), row("b", 5), row("c", 5, 7, 63)}, api.OK},
		{7, []string{"a", "b", "c", "d"}, l, api.ErrKey},
		{7, []string{""}, l, api.ErrKey},
		{5, []string{strings.Repeat("t", 9)}, l, api.ErrKey},
		{64, nil, l, api.ErrRoom},
		{-1, []string{""}, l, api.ErrRoom},
		{math.MaxInt, nil, l, api.ErrRoom},
	} {
		kept, list := copied(l), slices.Clone(c.tags)
		if got, e := tags.Add(l, c.id, c.tags); !equal(got, c.want) || e != c.e || !equal(l, kept) || !slices.Equal(list, c.tags) {
			t.Errorf("%d: %v, %d", i, got, e)
		}
	}
	for id, want := range map[int][]api.Row{0: {row("a", 5), row("b", 5), row("c", 5, 63)}, 5: {row("a", 0), row("c", 63)}, 9: l, -1: l, 64: l} {
		if got := tags.Drop(l, id); !equal(got, want) {
			t.Errorf("Drop(%d) = %v", id, got)
		}
	}
}

func TestP16Memory(t *testing.T) {
	l := []api.Row{row("a", 0, 5), row("b", 5)}
	kept := copied(l)
	a, _ := tags.Add(l, 64, nil)
	b, _ := tags.Add(l, 0, []string{"a"})
	c := tags.Drop(l, 9)
	for _, x := range [][]api.Row{a, b, c} {
		x[0].IDs[0] = 77
		x[0].Tag = "z"
	}
	tags.Of(l, "a")[0] = 77
	if !equal(l, kept) {
		t.Error("an answer shares memory with what was handed in")
	}
	bad := []api.Row{row("b", 1), row("a", 1)}
	tags.Drop(bad, 1)[0].IDs[0] = 77
	if bad[0].IDs[0] != 1 {
		t.Error("rows that may not be are told themselves")
	}
}

// model are the rows of what each one has.
func model(own map[int][]string) []api.Row {
	by := map[string][]int{}
	for id := range 64 {
		for _, tag := range own[id] {
			by[tag] = append(by[tag], id)
		}
	}
	var names []string
	for tag := range by {
		names = append(names, tag)
	}
	slices.Sort(names)
	var out []api.Row
	for _, tag := range names {
		out = append(out, row(tag, by[tag]...))
	}
	return out
}

func TestP16_3(t *testing.T) {
	l, _ := tags.Add(nil, 5, []string{"x", "y"})
	l, _ = tags.Add(l, 2, []string{"x"})
	if ids := tags.Of(l, "x"); !slices.Equal(ids, []int{2, 5}) {
		t.Errorf("the example's rows: %v", ids)
	}
	r := rand.New(rand.NewSource(27))
	for range 20 {
		var l []api.Row
		own := map[int][]string{}
		for range 200 {
			id := r.Intn(64)
			if r.Intn(4) == 0 {
				l = tags.Drop(l, id)
				delete(own, id)
			} else {
				x := make([]string, r.Intn(4))
				for i := range x {
					x[i] = string(rune('a' + r.Intn(6)))
				}
				l, _ = tags.Add(l, id, x)
				own[id], _ = thing.Tags(x)
			}
			if !equal(l, model(own)) || !tags.Check(l) {
				t.Fatalf("%v, not %v", l, model(own))
			}
			for _, tag := range own[id] {
				if !slices.Contains(tags.Of(l, tag), id) {
					t.Fatalf("%d does not have %q", id, tag)
				}
			}
			if !slices.Equal(tags.Tags(l, id), own[id]) {
				t.Fatalf("%d has %q", id, tags.Tags(l, id))
			}
		}
		var other []api.Row
		for _, id := range r.Perm(64) {
			other, _ = tags.Add(other, id, own[id])
		}
		if !equal(l, other) {
			t.Fatal("the order in which they came matters")
		}
	}
}
