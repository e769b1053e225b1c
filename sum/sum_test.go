package sum_test

import (
	"math/rand"
	"strings"
	"testing"

	"linhay/sum"
)

// model is Of as the chapter says it.
func model(parts ...string) uint32 {
	var n uint32
	for _, b := range []byte(strings.Join(parts, "")) {
		n ^= uint32(b) << 24
		for range 8 {
			high := n>>31 == 1
			n <<= 1
			if high {
				n ^= 0x814141ab
			}
		}
	}
	return n
}

func text(r *rand.Rand, n int) string {
	b := make([]byte, n)
	r.Read(b)
	return string(b)
}

func TestP6_1(t *testing.T) {
	for i, c := range []struct {
		parts []string
		want  uint32
	}{
		{nil, 0},
		{[]string{""}, 0},
		{[]string{"", "", ""}, 0},
		{[]string{"123456789"}, 0x3010bf7f},
		{[]string{"123", "", "456789"}, 0x3010bf7f},
		{[]string{"\x00\x00\x00"}, 0},
		{[]string{"\x01"}, 0x814141ab},
	} {
		if sum.Of(c.parts...) != c.want {
			t.Errorf("%d: %x", i, sum.Of(c.parts...))
		}
	}
	for b := range 256 {
		if s := string([]byte{byte(b)}); sum.Of(s) != model(s) {
			t.Errorf("the byte %d: %x", b, sum.Of(s))
		}
	}
	r := rand.New(rand.NewSource(9))
	for n := range 200 {
		a, b := text(r, n), text(r, r.Intn(20))
		if sum.Of(a, b) != model(a, b) || sum.Of(a+b) != model(a, b) {
			t.Errorf("Of(%q, %q) = %x", a, b, sum.Of(a, b))
		}
	}
}

func TestP6_2Bytes(t *testing.T) {
	for n, want := range map[uint32]string{0: "\x00\x00\x00\x00", 1: "\x00\x00\x00\x01", 0x01020304: "\x01\x02\x03\x04", 1<<32 - 1: "\xff\xff\xff\xff", 0x80ff007f: "\x80\xff\x00\x7f"} {
		if sum.Bytes(n) != want {
			t.Errorf("Bytes(%x) = %q", n, sum.Bytes(n))
		}
	}
}

func TestP6_2Seal(t *testing.T) {
	if sum.Seal("") != "\x00\x00\x00\x00\x00\x00\x00\x00" {
		t.Errorf("Seal of nothing: %q", sum.Seal(""))
	}
	long := strings.Repeat("x", 258)
	if s := sum.Seal(long); s != "\x00\x00\x01\x02"+long+sum.Bytes(model("\x00\x00\x01\x02", long)) {
		t.Errorf("Seal of 258 bytes: %q", s)
	}
}

func TestP6_2Open(t *testing.T) {
	for _, s := range []string{"", "x", "\x00\x00\x00", "\x00\x00\x00\x00", "\x00\x00\x00\x00\x00\x00\x00", "\x00\x00\x00\x01\x00\x00\x00\x00", "\x00\x00\x00\x00\x00\x00\x00\x01", sum.Seal("abc") + "\x00", "\x00" + sum.Seal("abc"), sum.Seal("abc")[1:], sum.Seal("abc")[:10]} {
		if got, ok := sum.Open(s); ok || got != "" {
			t.Errorf("Open(%q) = %q, %v", s, got, ok)
		}
	}
	// A text whose sum is right, but not how long it is said to be.
	wrong := "\x00\x00\x00\x04abc"
	if got, ok := sum.Open(wrong + sum.Bytes(sum.Of(wrong))); ok || got != "" {
		t.Errorf("a wrong length: %q, %v", got, ok)
	}
}

func TestP6_3Opened(t *testing.T) {
	r := rand.New(rand.NewSource(10))
	for n := range 300 {
		s := text(r, n)
		if got, ok := sum.Open(sum.Seal(s)); !ok || got != s {
			t.Fatalf("Open of Seal of %q: %q, %v", s, got, ok)
		}
	}
}

// change is s with the bits from at on changed where those of by are 1, the highest of by first.
func change(s string, at int, by uint32) string {
	b := []byte(s)
	for i := range 32 {
		if p := at + i; p < 8*len(b) && by>>(31-i)&1 == 1 {
			b[p/8] ^= 1 << (7 - p%8)
		}
	}
	return string(b)
}

func TestP6_3Seen(t *testing.T) {
	r := rand.New(rand.NewSource(11))
	for n := range 40 {
		sealed := sum.Seal(text(r, n))
		for at := range 8 * len(sealed) {
			for _, by := range []uint32{1 << 31, 1<<32 - 1, r.Uint32(), r.Uint32() >> r.Intn(32)} {
				changed := change(sealed, at, by)
				if _, ok := sum.Open(changed); ok != (changed == sealed) {
					t.Fatalf("%q, changed at %d by %x, is opened", sealed, at, by)
				}
			}
		}
	}
}

func TestP6_3Linear(t *testing.T) {
	r := rand.New(rand.NewSource(12))
	for n := range 100 {
		a, b := text(r, n), text(r, n)
		both := make([]byte, n)
		for i := range both {
			both[i] = a[i] ^ b[i]
		}
		if sum.Of(a)^sum.Of(b) != sum.Of(string(both)) {
			t.Fatalf("the sums of %q and %q do not go with what they are changed by", a, b)
		}
	}
}
