package word_test

import (
	"math/big"
	"math/rand"
	"testing"

	"linhay/api"
	"linhay/word"
)

const most = 1<<64 - 1

// edges are numbers at which sums, products and shifts turn.
func edges() []uint64 {
	l := []uint64{0, 1, 2, 3, 5, 7, 10, most, most - 1, most / 3, most / 5}
	for n := 1; n < 64; n++ {
		l = append(l, 1<<n-1, 1<<n, 1<<n+1)
	}
	r := rand.New(rand.NewSource(1))
	for range 60 {
		l = append(l, r.Uint64()>>r.Intn(64))
	}
	return l
}

func wide(a uint64) *big.Int { return new(big.Int).SetUint64(a) }

// held is what a great number is when it is held, and whether it had to be.
func held(n *big.Int) (uint64, bool) {
	switch {
	case n.Sign() < 0:
		return 0, true
	case !n.IsUint64():
		return most, true
	}
	return n.Uint64(), false
}

// checked is what Plus and Times tell of a great number.
func checked(n *big.Int) (uint64, api.Errno) {
	m, past := held(n)
	if past {
		return 0, api.ErrBig
	}
	return m, api.OK
}

func TestP1_1(t *testing.T) {
	for _, a := range edges() {
		for _, b := range edges() {
			sum, product := new(big.Int).Add(wide(a), wide(b)), new(big.Int).Mul(wide(a), wide(b))
			if want, _ := held(sum); word.Add(a, b) != want {
				t.Fatalf("Add(%d, %d) = %d", a, b, word.Add(a, b))
			}
			if want, _ := held(new(big.Int).Sub(wide(a), wide(b))); word.Sub(a, b) != want {
				t.Fatalf("Sub(%d, %d) = %d", a, b, word.Sub(a, b))
			}
			if want, _ := held(product); word.Mul(a, b) != want {
				t.Fatalf("Mul(%d, %d) = %d", a, b, word.Mul(a, b))
			}
			n, e := word.Plus(a, b)
			if m, f := checked(sum); n != m || e != f {
				t.Fatalf("Plus(%d, %d) = %d, %d", a, b, n, e)
			}
			n, e = word.Times(a, b)
			if m, f := checked(product); n != m || e != f {
				t.Fatalf("Times(%d, %d) = %d, %d", a, b, n, e)
			}
		}
	}
	if word.Add(most, 5) != most {
		t.Error("the example's sum")
	}
}

func TestP1_2(t *testing.T) {
	shifts := []uint{0, 1, 2, 31, 32, 33, 62, 63, 64, 65, 127, 128, 1000, 1 << 20}
	for _, a := range edges() {
		for _, n := range shifts {
			if want, _ := held(new(big.Int).Lsh(wide(a), n)); word.Shl(a, n) != want {
				t.Fatalf("Shl(%d, %d) = %d", a, n, word.Shl(a, n))
			}
			if want, _ := held(new(big.Int).Rsh(wide(a), n)); word.Shr(a, n) != want {
				t.Fatalf("Shr(%d, %d) = %d", a, n, word.Shr(a, n))
			}
		}
	}
	if word.Shl(0, 1<<63) != 0 || word.Shl(1, 1<<63) != most || word.Shr(most, 1<<63) != 0 || word.Shl(1, 1<<64-1) != most {
		t.Error("shifts by great numbers")
	}
	if word.Shl(3, 63) != most {
		t.Error("the example's shift")
	}
}

func TestP1_3(t *testing.T) {
	for _, c := range []struct {
		n    int
		want uint64
	}{{0, 0}, {1, 1}, {-1, 0}, {1<<63 - 1, 1<<63 - 1}, {-1 << 63, 0}, {-1<<63 + 1, 0}, {1 << 40, 1 << 40}} {
		if word.Of(c.n) != c.want {
			t.Errorf("Of(%d) = %d", c.n, word.Of(c.n))
		}
	}
	for _, c := range []struct {
		a    uint64
		want int
	}{{0, 0}, {1, 1}, {1<<63 - 2, 1<<63 - 2}, {1<<63 - 1, 1<<63 - 1}, {1 << 63, 1<<63 - 1}, {most, 1<<63 - 1}} {
		if word.Int(c.a) != c.want {
			t.Errorf("Int(%d) = %d", c.a, word.Int(c.a))
		}
	}
}

func TestP1_4(t *testing.T) {
	for _, a := range edges() {
		for _, b := range edges() {
			if _, e := word.Plus(a, b); e == api.OK && word.Sub(word.Add(a, b), b) != a {
				t.Fatalf("%d and %d, taken away again", a, b)
			}
		}
		for n := uint(0); n < 70; n++ {
			if _, past := held(new(big.Int).Lsh(wide(a), n)); !past && word.Shr(word.Shl(a, n), n) != a {
				t.Fatalf("%d, up and down by %d", a, n)
			}
		}
	}
}
