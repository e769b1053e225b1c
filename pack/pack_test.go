package pack_test

import (
	"math/big"
	"math/rand"
	"slices"
	"strings"
	"testing"

	"linhay/api"
	"linhay/pack"
)

const most = 1<<64 - 1

func numbers() []uint64 {
	l := []uint64{0, 1, 5, 127, 128, 129, 255, 256, 300, 16383, 16384, most - 1, most}
	for n := 1; n < 64; n++ {
		l = append(l, 1<<n-1, 1<<n, 1<<n+1)
	}
	r := rand.New(rand.NewSource(13))
	for range 100 {
		l = append(l, r.Uint64()>>r.Intn(64))
	}
	return l
}

// bytes are a number's, as the chapter says them.
func bytes(n uint64) string {
	var digits []byte
	for n > 0 || len(digits) == 0 {
		digits, n = append(digits, byte(n%128)), n/128
	}
	for i := range digits[1:] {
		digits[i] += 128
	}
	return string(digits)
}

func TestP7_1(t *testing.T) {
	all, want := "x", "x"
	for _, n := range numbers() {
		if pack.Size(n) != len(bytes(n)) || pack.Put("", n) != bytes(n) || pack.Put("\x80ab", n) != "\x80ab"+bytes(n) {
			t.Fatalf("%d: %d, %q", n, pack.Size(n), pack.Put("", n))
		}
		all, want = pack.Put(all, n, 5, n), want+bytes(n)+"\x05"+bytes(n)
	}
	if all != want || pack.Put("abc") != "abc" || pack.Put("") != "" {
		t.Error("several numbers, and none")
	}
	if pack.Put("", 5, 300) != "\x05\xac\x02" || pack.Put("", most) != "\xff\xff\xff\xff\xff\xff\xff\xff\xff\x01" {
		t.Error("the example's numbers, and the greatest one")
	}
	l := []uint64{1, 2, 3}
	if pack.Put("", l...); !slices.Equal(l, []uint64{1, 2, 3}) {
		t.Error("what was handed in is changed")
	}
}

// begins is the number whose bytes b begins with, by a look at each of its beginnings.
func begins(b string) (uint64, string, api.Errno) {
	for i := 1; i <= len(b) && i <= 12; i++ {
		n := new(big.Int)
		for j := i - 1; j >= 0; j-- {
			n.Lsh(n, 7).Add(n, big.NewInt(int64(b[j]%128)))
		}
		if n.IsUint64() && bytes(n.Uint64()) == b[:i] {
			return n.Uint64(), b[i:], api.OK
		}
	}
	return 0, "", api.ErrCode
}

func TestP7_2(t *testing.T) {
	for _, b := range []string{
		"", "\x00", "\x00\x00", "\x80", "\x80\x00", "\x80\x01", "\x80\x80\x00", "\xff\x00", "\xac\x02rest", "\x7f", "\xff",
		"\xff\xff\xff\xff\xff\xff\xff\xff\xff\x01", "\xff\xff\xff\xff\xff\xff\xff\xff\xff\x02", "\xff\xff\xff\xff\xff\xff\xff\xff\xff\x00",
		"\xff\xff\xff\xff\xff\xff\xff\xff\xff\x7f", "\x80\x80\x80\x80\x80\x80\x80\x80\x80\x01", "\x80\x80\x80\x80\x80\x80\x80\x80\x80\x80\x01",
		"\x81\x80\x80\x80\x80\x80\x80\x80\x80\x80\x00", "\xff\xff\xff\xff\xff\xff\xff\xff\xff\x81\x00", "\xff\xff\xff\xff\xff\xff\xff\xff\xff\xff\x01",
		strings.Repeat("\x80", 1000), strings.Repeat("\xff", 1000) + "\x01",
	} {
		want, wantRest, wantE := begins(b)
		if n, rest, e := pack.Take(b); n != want || rest != wantRest || e != wantE {
			t.Errorf("Take(%q) = %d, %q, %d", b, n, rest, e)
		}
	}
	r := rand.New(rand.NewSource(14))
	for range 20000 {
		b := make([]byte, r.Intn(14))
		for i := range b {
			b[i] = []byte{0, 1, 2, 127, 128, 129, 255, byte(r.Intn(256))}[r.Intn(8)]
		}
		want, wantRest, wantE := begins(string(b))
		if n, rest, e := pack.Take(string(b)); n != want || rest != wantRest || e != wantE {
			t.Fatalf("Take(%q) = %d, %q, %d", b, n, rest, e)
		}
	}
}

func TestP7_3(t *testing.T) {
	long := strings.Repeat("y", 300)
	for _, c := range []struct{ b, t, want string }{
		{"", "", "\x00"},
		{"a", "", "a\x00"},
		{"a", "bc", "a\x02bc"},
		{"", long, "\xac\x02" + long},
		{"\x80", "\xff\x00", "\x80\x02\xff\x00"},
	} {
		if pack.Text(c.b, c.t) != c.want {
			t.Errorf("Text(%q, %q) = %q", c.b, c.t, pack.Text(c.b, c.t))
		}
	}
	for _, c := range []struct {
		b    string
		l    []string
		want string
	}{
		{"", nil, "\x00"},
		{"a", []string{}, "a\x00"},
		{"a", []string{""}, "a\x01\x00"},
		{"a", []string{"b", "", "cd"}, "a\x03\x01b\x00\x02cd"},
	} {
		if pack.Texts(c.b, c.l) != c.want {
			t.Errorf("Texts(%q, %q) = %q", c.b, c.l, pack.Texts(c.b, c.l))
		}
	}
}

func TestP7_3None(t *testing.T) {
	for _, b := range []string{"", "\x01", "\x80", "\x80\x00", "\x05abcd", "\xff\xff\xff\xff\xff\xff\xff\xff\xff\x01", "\xff\xff\xff\xff\xff\xff\xff\xff\x7fabc", "\x81\x00a"} {
		if s, rest, e := pack.TakeText(b); s != "" || rest != "" || e != api.ErrCode {
			t.Errorf("TakeText(%q) = %q, %q, %d", b, s, rest, e)
		}
		if l, rest, e := pack.TakeTexts(b); len(l) != 0 || rest != "" || e != api.ErrCode {
			t.Errorf("TakeTexts(%q) = %q, %q, %d", b, l, rest, e)
		}
	}
	for _, b := range []string{"\x02\x01a", "\x02\x01a\x02b", "\x01\x80\x00", "\x03\x00\x00", "\xff\xff\xff\xff\x07\x00\x00"} {
		if l, rest, e := pack.TakeTexts(b); len(l) != 0 || rest != "" || e != api.ErrCode {
			t.Errorf("TakeTexts(%q) = %q, %q, %d", b, l, rest, e)
		}
	}
}

func TestP7_4(t *testing.T) {
	r := rand.New(rand.NewSource(15))
	for _, behind := range []string{"", "\x00", "\x80", "\xff\xff", "rest"} {
		for _, n := range numbers() {
			if got, rest, e := pack.Take(pack.Put("", n) + behind); got != n || rest != behind || e != api.OK {
				t.Fatalf("%d, put and taken: %d, %q, %d", n, got, rest, e)
			}
		}
		for range 200 {
			l := make([]string, r.Intn(6))
			for i := range l {
				b := make([]byte, r.Intn(200))
				r.Read(b)
				l[i] = string(b)
				if got, rest, e := pack.TakeText(pack.Text("", l[i]) + behind); got != l[i] || rest != behind || e != api.OK {
					t.Fatalf("%q, put and taken: %q, %q, %d", l[i], got, rest, e)
				}
			}
			if got, rest, e := pack.TakeTexts(pack.Texts("", l) + behind); !slices.Equal(got, l) || rest != behind || e != api.OK {
				t.Fatalf("%q, put and taken: %q, %q, %d", l, got, rest, e)
			}
		}
	}
}
