package fixed_test

import (
	"math/big"
	"math/rand"
	"slices"
	"testing"

	"linhay/api"
	"linhay/fixed"
)

const most = 1<<64 - 1

func words() []uint64 {
	l := []uint64{0, 1, 2, 3, 5, api.One / 4, api.One / 2, api.One - 1, api.One, api.One + 1, 3 * api.One / 2, 2 * api.One, 1<<63 - 1, 1 << 63, most - 1, most}
	r := rand.New(rand.NewSource(5))
	for range 20 {
		l = append(l, r.Uint64()>>r.Intn(64))
	}
	return l
}

func great(n uint64) *big.Int { return new(big.Int).SetUint64(n) }

// quotient is a times b, divided by c, from below, and whether it is too great.
func quotient(a, b, c *big.Int) (uint64, bool) {
	n := new(big.Int).Mul(a, b)
	n.Quo(n, c)
	if !n.IsUint64() {
		return most, true
	}
	return n.Uint64(), false
}

func TestP4_1(t *testing.T) {
	one := great(api.One)
	for _, a := range words() {
		for _, b := range words() {
			want, wantE := uint64(0), api.ErrZero
			if b != 0 {
				n, past := quotient(great(a), one, great(b))
				want, wantE = n, api.OK
				if past {
					want, wantE = 0, api.ErrBig
				}
			}
			if n, e := fixed.Of(a, b); n != want || e != wantE {
				t.Fatalf("Of(%d, %d) = %d, %d", a, b, n, e)
			}
			if n, e := fixed.Div(a, b); n != want || e != wantE {
				t.Fatalf("Div(%d, %d) = %d, %d", a, b, n, e)
			}
			if n, _ := quotient(great(a), great(b), one); fixed.Mul(a, b) != n {
				t.Fatalf("Mul(%d, %d) = %d", a, b, fixed.Mul(a, b))
			}
		}
	}
	half, _ := fixed.Of(3, 2)
	if half != 3*api.One/2 || fixed.Mul(half, half) != 9*api.One/4 {
		t.Error("the example's numbers")
	}
}

func TestP4_2(t *testing.T) {
	for _, a := range words() {
		if fixed.Whole(a) != a/api.One || fixed.Part(a) != a%api.One {
			t.Fatalf("%d: %d, %d", a, fixed.Whole(a), fixed.Part(a))
		}
		for _, b := range words() {
			for _, w := range words() {
				of := min(w, api.One)
				n := new(big.Int).Mul(great(of), great(b))
				n.Add(n, new(big.Int).Mul(great(api.One-of), great(a)))
				n.Quo(n, great(api.One))
				if !n.IsUint64() || fixed.Mix(a, b, w) != n.Uint64() {
					t.Fatalf("Mix(%d, %d, %d) = %d", a, b, w, fixed.Mix(a, b, w))
				}
			}
		}
	}
	if fixed.Mix(0, api.One, api.One/4) != api.One/4 || fixed.Mix(1, 1, api.One/2) != 1 || fixed.Mix(7, 9, most) != 9 {
		t.Error("mixes that are plain")
	}
}

func TestP4_2Sum(t *testing.T) {
	for i, c := range []struct {
		l    []uint64
		want uint64
	}{
		{nil, 0},
		{[]uint64{7}, 7},
		{[]uint64{1, 2, 3}, 6},
		{[]uint64{most, 1, 5}, most},
		{[]uint64{1 << 63, 1 << 63}, most},
		{[]uint64{1 << 63, 1<<63 - 1, 0}, most},
		{[]uint64{most, most, most}, most},
	} {
		kept := slices.Clone(c.l)
		if fixed.Sum(c.l...) != c.want || !slices.Equal(c.l, kept) {
			t.Errorf("%d: %d", i, fixed.Sum(c.l...))
		}
	}
}

func TestP4_3(t *testing.T) {
	for _, a := range words() {
		for _, b := range words() {
			for _, w := range words() {
				if n := fixed.Mix(a, b, w); n < min(a, b) || n > max(a, b) {
					t.Fatalf("Mix(%d, %d, %d) = %d", a, b, w, n)
				}
			}
			if n := fixed.Mul(a, b); a <= api.One && b <= api.One && n > min(a, b) {
				t.Fatalf("Mul(%d, %d) = %d", a, b, n)
			}
			// The quotient's product, exactly: at most a, and less than one part of b below it.
			if q, e := fixed.Div(a, b); e == api.OK {
				scaled := new(big.Int).Mul(great(q), great(b))
				rest := new(big.Int).Sub(new(big.Int).Mul(great(a), great(api.One)), scaled)
				if fixed.Mul(q, b) > a || rest.Sign() < 0 || rest.Cmp(great(b)) >= 0 {
					t.Fatalf("Div(%d, %d) = %d", a, b, q)
				}
			}
		}
	}
}
