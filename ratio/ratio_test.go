package ratio_test

import (
	"math/big"
	"math/rand"
	"slices"
	"testing"

	"linhay/api"
	"linhay/ratio"
)

const most = 1<<64 - 1

func words() []uint64 {
	l := []uint64{0, 1, 2, 3, 4, 5, 7, 1 << 32, 1<<32 - 1, 1<<63 - 1, 1 << 63, most - 1, most}
	r := rand.New(rand.NewSource(3))
	for range 20 {
		l = append(l, r.Uint64()>>r.Intn(64))
	}
	return l
}

func ratios() []api.Ratio {
	var l []api.Ratio
	for _, n := range words() {
		for _, d := range words() {
			l = append(l, api.Ratio{Num: n, Den: d})
		}
	}
	return l
}

func small(n uint64) *big.Int { return new(big.Int).SetUint64(n) }

func exact(r api.Ratio) *big.Rat { return new(big.Rat).SetFrac(small(r.Num), small(r.Den)) }

func TestP3_1Compare(t *testing.T) {
	for _, a := range ratios() {
		for _, b := range ratios() {
			want, wantE := 0, api.ErrZero
			if a.Den != 0 && b.Den != 0 {
				want, wantE = exact(a).Cmp(exact(b)), api.OK
			}
			if n, e := ratio.Cmp(a, b); n != want || e != wantE {
				t.Fatalf("Cmp(%v, %v) = %d, %d", a, b, n, e)
			}
		}
	}
	if n, e := ratio.Cmp(api.Ratio{Num: 1, Den: 3}, api.Ratio{Num: 2, Den: 6}); n != 0 || e != api.OK {
		t.Error("the example's ratios")
	}
}

func TestP3_1Least(t *testing.T) {
	for i, c := range []struct {
		l     []api.Ratio
		want  int
		found bool
	}{
		{nil, 0, false},
		{[]api.Ratio{}, 0, false},
		{[]api.Ratio{{Num: 1}}, 0, false},
		{[]api.Ratio{{}, {Num: 5}}, 0, false},
		{[]api.Ratio{{}, {Num: 5}, {Num: 5, Den: 1}}, 2, true},
		{[]api.Ratio{{Num: 2, Den: 4}, {Num: 1, Den: 2}, {Num: 3, Den: 6}}, 0, true},
		{[]api.Ratio{{Num: 1, Den: 1}, {Num: 2, Den: 4}, {}, {Num: 1, Den: 2}}, 1, true},
		{[]api.Ratio{{Num: 0, Den: 9}, {Num: 0, Den: 1}}, 0, true},
		{[]api.Ratio{{Num: most, Den: most - 1}, {Num: most - 1, Den: most - 2}, {Num: most, Den: most}}, 2, true},
		{[]api.Ratio{{Num: most - 1, Den: most - 2}, {Num: most, Den: most - 1}}, 1, true},
	} {
		if at, found := ratio.Least(c.l); at != c.want || found != c.found {
			t.Errorf("%d: %d, %v", i, at, found)
		}
	}
	r := rand.New(rand.NewSource(4))
	for range 2000 {
		l := make([]api.Ratio, r.Intn(9))
		for i := range l {
			l[i] = api.Ratio{Num: uint64(r.Intn(6)), Den: uint64(r.Intn(5))}
		}
		kept := slices.Clone(l)
		at, found := ratio.Least(l)
		want, some := 0, false
		for i, x := range l {
			if x.Den != 0 && (!some || exact(x).Cmp(exact(l[want])) < 0) {
				want, some = i, true
			}
		}
		if at != want || found != some || !slices.Equal(l, kept) {
			t.Fatalf("Least(%v) = %d, %v", l, at, found)
		}
	}
}

// expected is what a part is, as down, up or half say of the one from below.
func expected(a, b, c uint64, kind string) (uint64, api.Errno) {
	if c == 0 {
		return 0, api.ErrZero
	}
	n, rest := new(big.Int).QuoRem(new(big.Int).Mul(small(a), small(b)), small(c), new(big.Int))
	if kind == "up" && rest.Sign() > 0 || kind == "half" && rest.Lsh(rest, 1).Cmp(small(c)) >= 0 {
		n.Add(n, big.NewInt(1))
	}
	if !n.IsUint64() {
		return 0, api.ErrBig
	}
	return n.Uint64(), api.OK
}

func TestP3_2(t *testing.T) {
	calls := map[string]func(a, b, c uint64) (uint64, api.Errno){"down": ratio.Floor, "up": ratio.Ceil, "half": ratio.Near}
	for kind, call := range calls {
		for _, a := range words() {
			for _, b := range words() {
				for _, c := range words() {
					want, wantE := expected(a, b, c, kind)
					if n, e := call(a, b, c); n != want || e != wantE {
						t.Fatalf("%s of %d, %d, %d: %d, %d", kind, a, b, c, n, e)
					}
				}
			}
		}
	}
	floor, _ := ratio.Floor(7, 5, 4)
	ceil, _ := ratio.Ceil(7, 5, 4)
	near, _ := ratio.Near(7, 5, 4)
	if floor != 8 || ceil != 9 || near != 9 {
		t.Error("the example's parts")
	}
}

// edge are factors and a divisor whose quotient is 2^64 - 1, with something behind the point.
func edge(t *testing.T, rest, c uint64) (uint64, uint64) {
	all := new(big.Int).Mul(small(c), small(most))
	all.Add(all, small(rest))
	for b := uint64(2); b < 1000; b++ {
		a, over := new(big.Int).QuoRem(all, small(b), new(big.Int))
		if over.Sign() == 0 && a.IsUint64() {
			return a.Uint64(), b
		}
	}
	t.Fatalf("no factors for %d, %d", rest, c)
	return 0, 0
}

// Only what is rounded up past 2^64 - 1 is too great.
func TestP3_2Edge(t *testing.T) {
	for _, x := range []struct {
		rest, c uint64
		near    api.Errno
	}{{1, 2, api.ErrBig}, {1, 3, api.OK}, {1, 4, api.OK}, {2, 4, api.ErrBig}, {3, 7, api.OK}, {4, 7, api.ErrBig}} {
		a, b := edge(t, x.rest, x.c)
		if n, e := ratio.Floor(a, b, x.c); n != most || e != api.OK {
			t.Errorf("Floor(%d, %d, %d) = %d, %d", a, b, x.c, n, e)
		}
		if n, e := ratio.Ceil(a, b, x.c); n != 0 || e != api.ErrBig {
			t.Errorf("Ceil(%d, %d, %d) = %d, %d", a, b, x.c, n, e)
		}
		if n, e := ratio.Near(a, b, x.c); e != x.near || (e == api.OK) != (n == most) {
			t.Errorf("Near(%d, %d, %d) = %d, %d", a, b, x.c, n, e)
		}
	}
	for _, x := range [][3]uint64{{1<<32 + 1, 1<<32 - 1, 1}, {most, 2, 2}} {
		if n, e := ratio.Ceil(x[0], x[1], x[2]); n != most || e != api.OK {
			t.Errorf("Ceil(%v) = %d, %d", x, n, e)
		}
	}
}

func TestP3_3(t *testing.T) {
	for _, a := range words() {
		for _, b := range words() {
			for _, c := range words() {
				floor, e := ratio.Floor(a, b, c)
				near, f := ratio.Near(a, b, c)
				ceil, g := ratio.Ceil(a, b, c)
				if e == api.OK && f == api.OK && g == api.OK && (floor > near || near > ceil || ceil-floor > 1) {
					t.Fatalf("%d, %d, %d: %d, %d, %d", a, b, c, floor, near, ceil)
				}
			}
		}
	}
	for _, x := range ratios() {
		for _, by := range []uint64{1, 2, 3, 1000} {
			if x.Num < most/1000 && x.Den < most/1000 && x.Den > 0 {
				if n, e := ratio.Cmp(x, api.Ratio{Num: x.Num * by, Den: x.Den * by}); n != 0 || e != api.OK {
					t.Fatalf("%v, %d times as great", x, by)
				}
			}
		}
	}
}
