package expo_test

import (
	"math"
	"math/big"
	"math/rand"
	"testing"

	"linhay/api"
	"linhay/expo"
)

const most = 1<<64 - 1

// model is Of as the chapter says it, with powers that are reckoned anew.
func model(x uint64, powers map[int]*big.Int) uint64 {
	if x >= api.MaxExp {
		return 0
	}
	n := new(big.Int).Lsh(big.NewInt(1), 62)
	for bit := 63; bit >= 0; bit-- {
		if x>>bit&1 == 1 {
			n.Mul(n, powers[bit-32])
			n.Rsh(n, 62)
		}
	}
	return n.Rsh(n, 30).Uint64()
}

func table() map[int]*big.Int {
	powers := map[int]*big.Int{}
	for k := -32; k <= 4; k++ {
		powers[k] = expo.Power(k)
	}
	return powers
}

func numbers() []uint64 {
	l := []uint64{0, 1, 2, 3, api.One - 1, api.One, api.One + 1, api.MaxExp - 1, api.MaxExp, api.MaxExp + 1, 1 << 40, most}
	for bit := range 64 {
		l = append(l, 1<<bit, 1<<bit-1, most>>bit)
	}
	r := rand.New(rand.NewSource(6))
	for range 3000 {
		l = append(l, r.Uint64()>>(27+r.Intn(20)))
	}
	return l
}

func TestP5_1(t *testing.T) {
	powers := table()
	for _, x := range numbers() {
		if want := model(x, powers); expo.Of(x) != want {
			t.Fatalf("Of(%d) = %d, not %d", x, expo.Of(x), want)
		}
	}
	for _, c := range [][2]uint64{{0, 4294967296}, {api.One, 1580030168}, {api.MaxExp, 0}, {most, 0}} {
		if expo.Of(c[0]) != c[1] {
			t.Errorf("Of(%d) = %d", c[0], expo.Of(c[0]))
		}
	}
}

func TestP5_2(t *testing.T) {
	for _, c := range []struct{ a, b, want uint64 }{
		{0, 0, 0},
		{5, 0, 0},
		{0, 5, api.One},
		{64, 64, 1580030168},
		{most, most, 1580030168},
		{most, 1, 0},
		{1 << 32, 1, 0},
		{32, 1, 0},
		{31, 1, expo.Of(31 * api.One)},
		{3, 2, expo.Of(3 * api.One / 2)},
		{1, 3, expo.Of(api.One / 3)},
		{1, most, api.One},
	} {
		if n := expo.Ratio(c.a, c.b); n != c.want {
			t.Errorf("Ratio(%d, %d) = %d", c.a, c.b, n)
		}
	}
}

func TestP5_2Below(t *testing.T) {
	for _, c := range []struct {
		draw uint32
		a, b uint64
		want bool
	}{
		{0, 0, 0, false},
		{0, 1, 0, false},
		{1<<32 - 1, 0, 1, true},
		{1580030167, 64, 64, true},
		{1580030168, 64, 64, false},
		{0, 32, 1, false},
		{0, 4096, 1, false},
		{0, 1, 1, true},
	} {
		if expo.Below(c.draw, c.a, c.b) != c.want {
			t.Errorf("Below(%d, %d, %d)", c.draw, c.a, c.b)
		}
	}
	r := rand.New(rand.NewSource(7))
	for range 2000 {
		a, b := r.Uint64()>>(50+r.Intn(14)), r.Uint64()>>(50+r.Intn(14))
		n := expo.Ratio(a, b)
		if n > 0 && !expo.Below(uint32(n-1), a, b) || n < api.One && expo.Below(uint32(n), a, b) {
			t.Fatalf("Below at the edge of %d, %d", a, b)
		}
	}
}

func TestP5_3(t *testing.T) {
	if expo.Of(0) != api.One {
		t.Error("Of(0)")
	}
	r := rand.New(rand.NewSource(8))
	for range 5000 {
		x := r.Uint64() % (api.MaxExp + api.One) >> r.Intn(37)
		n := expo.Of(x)
		if n < expo.Of(x+1) || n < expo.Of(x+r.Uint64()>>27) {
			t.Fatalf("Of(%d) rises", x)
		}
		if d := float64(n)/api.One - math.Exp(-float64(x)/api.One); math.Abs(d) >= 1.0/(1<<24) {
			t.Fatalf("Of(%d) is %g beside", x, d)
		}
		y := r.Uint64() % api.MaxExp >> r.Intn(37)
		product := float64(n) / api.One * float64(expo.Of(y)) / api.One
		if d := float64(expo.Of(x+y))/api.One - product; math.Abs(d) >= 1.0/(1<<24) {
			t.Fatalf("Of(%d + %d) is %g beside the product", x, y, d)
		}
	}
}
