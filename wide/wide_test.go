package wide_test

import (
	"math/big"
	"math/rand"
	"testing"

	"linhay/api"
	"linhay/wide"
)

const most = 1<<64 - 1

var whole = new(big.Int).Lsh(big.NewInt(1), 128)

func words() []uint64 {
	l := []uint64{0, 1, 2, 3, 6, 10, 1 << 31, 1<<32 - 1, 1 << 32, 1<<32 + 1, 1<<63 - 1, 1 << 63, 1<<63 + 1, most - 1, most}
	r := rand.New(rand.NewSource(2))
	for range 12 {
		l = append(l, r.Uint64()>>r.Intn(64))
	}
	return l
}

func numbers() []api.Wide {
	var l []api.Wide
	for _, hi := range words() {
		for _, lo := range words() {
			l = append(l, api.Wide{Hi: hi, Lo: lo})
		}
	}
	return l
}

func small(n uint64) *big.Int { return new(big.Int).SetUint64(n) }

func great(x api.Wide) *big.Int {
	n := small(x.Hi)
	return n.Add(n.Lsh(n, 64), small(x.Lo))
}

func TestP2_1(t *testing.T) {
	for _, a := range words() {
		if wide.Of(a) != (api.Wide{Lo: a}) {
			t.Fatalf("Of(%d)", a)
		}
		for _, b := range words() {
			if great(wide.Mul(a, b)).Cmp(new(big.Int).Mul(small(a), small(b))) != 0 {
				t.Fatalf("Mul(%d, %d) = %v", a, b, wide.Mul(a, b))
			}
		}
	}
	if wide.Mul(1<<63, 6) != (api.Wide{Hi: 3}) {
		t.Error("the example's product")
	}
	for _, x := range numbers() {
		for _, y := range numbers() {
			sum := new(big.Int).Add(great(x), great(y))
			z, over := wide.Add(x, y)
			if over != (sum.Cmp(whole) >= 0) || great(z).Cmp(sum.Mod(sum, whole)) != 0 {
				t.Fatalf("Add(%v, %v) = %v, %v", x, y, z, over)
			}
			rest := new(big.Int).Sub(great(x), great(y))
			z, under := wide.Sub(x, y)
			if under != (rest.Sign() < 0) || great(z).Cmp(rest.Mod(rest, whole)) != 0 {
				t.Fatalf("Sub(%v, %v) = %v, %v", x, y, z, under)
			}
		}
	}
}

func TestP2_2Compare(t *testing.T) {
	for _, x := range numbers() {
		for _, y := range numbers() {
			if wide.Cmp(x, y) != great(x).Cmp(great(y)) {
				t.Fatalf("Cmp(%v, %v) = %d", x, y, wide.Cmp(x, y))
			}
		}
	}
}

func TestP2_2Divide(t *testing.T) {
	for _, x := range numbers() {
		for _, d := range words() {
			q, r, e := wide.Div(x, d)
			if d == 0 {
				if q != (api.Wide{}) || r != 0 || e != api.ErrZero {
					t.Fatalf("Div(%v, 0) = %v, %d, %d", x, q, r, e)
				}
				continue
			}
			wantQ, wantR := new(big.Int).QuoRem(great(x), small(d), new(big.Int))
			if e != api.OK || great(q).Cmp(wantQ) != 0 || small(r).Cmp(wantR) != 0 {
				t.Fatalf("Div(%v, %d) = %v, %d, %d", x, d, q, r, e)
			}
		}
	}
}

func TestP2_2Shift(t *testing.T) {
	for _, x := range numbers() {
		for _, n := range []uint{0, 1, 31, 63, 64, 65, 100, 127, 128, 129, 192, 1000} {
			if great(wide.Shr(x, n)).Cmp(new(big.Int).Rsh(great(x), n)) != 0 {
				t.Fatalf("Shr(%v, %d) = %v", x, n, wide.Shr(x, n))
			}
		}
		for _, n := range []uint{1 << 40, 1 << 63, 1<<64 - 1} {
			if wide.Shr(x, n) != (api.Wide{}) {
				t.Fatalf("Shr(%v, %d) = %v", x, n, wide.Shr(x, n))
			}
		}
	}
}

func TestP2_3(t *testing.T) {
	for _, x := range numbers() {
		for _, d := range words() {
			q, r, e := wide.Div(x, d)
			if e != api.OK {
				continue
			}
			// The product of both words of the quotient with the divisor, and the rest, are x again.
			upper, lower := wide.Mul(q.Hi, d), wide.Mul(q.Lo, d)
			back, over1 := wide.Add(api.Wide{Hi: upper.Lo}, lower)
			back, over2 := wide.Add(back, wide.Of(r))
			if upper.Hi != 0 || over1 || over2 || back != x || r >= d {
				t.Fatalf("%v, divided by %d, and multiplied again: %v", x, d, back)
			}
		}
		for _, y := range numbers() {
			sum, over := wide.Add(x, y)
			if back, under := wide.Sub(sum, y); back != x || under != over {
				t.Fatalf("%v and %v, taken away again: %v", x, y, back)
			}
		}
	}
}
