package thing_test

import (
	"hash/fnv"
	"math"
	"math/rand"
	"slices"
	"strings"
	"testing"

	"linhay/api"
	"linhay/thing"
)

func TestP9_1Key(t *testing.T) {
	for n := range 40 {
		if thing.Key(strings.Repeat("\x00", n)) != (n >= 1 && n <= 16) {
			t.Errorf("a key of %d bytes", n)
		}
	}
	if !thing.Key("\xff\xfe") || thing.Key(strings.Repeat("é", 9)) || !thing.Key(strings.Repeat("é", 8)) {
		t.Error("keys are bytes")
	}
}

func TestP9_1Tags(t *testing.T) {
	eight, nine := strings.Repeat("t", 8), strings.Repeat("t", 9)
	for i, c := range []struct {
		l, want []string
		e       api.Errno
	}{
		{nil, nil, api.OK},
		{[]string{}, nil, api.OK},
		{[]string{"b", "a", "b"}, []string{"a", "b"}, api.OK},
		{[]string{eight, "\x00", "\xff"}, []string{"\x00", eight, "\xff"}, api.OK},
		{[]string{"a", "a\x00", "a\x00\x00"}, []string{"a", "a\x00", "a\x00\x00"}, api.OK},
		{[]string{"\x00\x00", "\x00", "\x00\x00"}, []string{"\x00", "\x00\x00"}, api.OK},
		{[]string{"b", "a", "ab", "Z"}, nil, api.ErrKey},
		{[]string{"c", "a", "b", "a", "c", "b", "b"}, []string{"a", "b", "c"}, api.OK},
		{[]string{""}, nil, api.ErrKey},
		{[]string{"a", "", "b"}, nil, api.ErrKey},
		{[]string{nine}, nil, api.ErrKey},
		{[]string{"a", "b", nine}, nil, api.ErrKey},
		{[]string{strings.Repeat("t", 8+256)}, nil, api.ErrKey},
		{[]string{"a", "b", "c", "d", ""}, nil, api.ErrKey},
		{[]string{"\x80", "\x7f"}, []string{"\x7f", "\x80"}, api.OK},
	} {
		kept := slices.Clone(c.l)
		got, e := thing.Tags(c.l)
		if !slices.Equal(got, c.want) || e != c.e || !slices.Equal(c.l, kept) {
			t.Errorf("%d: %q, %d", i, got, e)
		}
	}
	l := []string{"a", "b"}
	if got, _ := thing.Tags(l); &got[0] == &l[0] {
		t.Error("what was handed in is told")
	}
}

func TestP9_2(t *testing.T) {
	r := rand.New(rand.NewSource(18))
	for n := range 200 {
		b := make([]byte, n)
		r.Read(b)
		h := fnv.New64a()
		h.Write(b)
		if thing.Hash(string(b)) != h.Sum64() {
			t.Fatalf("Hash(%q) = %d", b, thing.Hash(string(b)))
		}
		for _, many := range []int{1, 2, 3, 128, 1 << 40, math.MaxInt} {
			if thing.Home(string(b), many) != int(h.Sum64()%uint64(many)) {
				t.Fatalf("Home(%q, %d) = %d", b, many, thing.Home(string(b), many))
			}
		}
		for _, many := range []int{0, -1, math.MinInt} {
			if thing.Home(string(b), many) != 0 {
				t.Fatalf("Home(%q, %d) = %d", b, many, thing.Home(string(b), many))
			}
		}
	}
	if thing.Hash("") != 14695981039346656037 || thing.Hash("a") != 0xaf63dc4c8601ec8c {
		t.Error("hashes that are known")
	}
}

func TestP9_3(t *testing.T) {
	r := rand.New(rand.NewSource(19))
	for range 2000 {
		l := make([]string, r.Intn(5))
		for i := range l {
			l[i] = strings.Repeat(string(rune('a'+r.Intn(3))), r.Intn(9))
		}
		first, e := thing.Tags(l)
		if again, f := thing.Tags(first); e == api.OK && (f != api.OK || !slices.Equal(again, first)) {
			t.Fatalf("%q tells %q, that tells %q", l, first, again)
		}
		r.Shuffle(len(l), func(i, j int) { l[i], l[j] = l[j], l[i] })
		if other, f := thing.Tags(l); f != e || !slices.Equal(other, first) {
			t.Fatalf("%q tells %q in another order", l, other)
		}
		b := make([]byte, 1+r.Intn(20))
		r.Read(b)
		s := string(b)
		if (thing.Hash(s[:len(s)-1])^uint64(s[len(s)-1]))*1099511628211 != thing.Hash(s) {
			t.Fatalf("the hash of %q does not go on", s)
		}
	}
}
