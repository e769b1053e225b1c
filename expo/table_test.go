package expo

import (
	"math/big"
	"testing"
)

// Power is 2^62 times e to the minus 2^k, from below: the series of e to the minus 2^k/2^40, squared 40 times.
func Power(k int) *big.Int {
	const bits = 400
	x := new(big.Float).SetPrec(bits).SetMantExp(big.NewFloat(-1), k-40)
	sum, term := new(big.Float).SetPrec(bits).SetInt64(1), new(big.Float).SetPrec(bits).SetInt64(1)
	for i := int64(1); i < 40; i++ {
		term.Mul(term, x)
		term.Quo(term, new(big.Float).SetPrec(bits).SetInt64(i))
		sum.Add(sum, term)
	}
	for range 40 {
		sum.Mul(sum, sum)
	}
	n, _ := sum.SetMantExp(sum, 62).Int(nil)
	return n
}

// P5.1: the table's numbers are hardly seen in what is told, so that they are held against their words one by one.
func TestP5_1Table(t *testing.T) {
	for i, n := range powers {
		if want := Power(i - outer); want.Cmp(new(big.Int).SetUint64(n)) != 0 {
			t.Errorf("the power of %d is %d, not %d", i-outer, n, want)
		}
	}
}
