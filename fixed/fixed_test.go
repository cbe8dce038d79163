package fixed_test

import (
	"math"
	"math/big"
	"testing"

	"dynamo/fixed"
)

const (
	least    = math.MinInt64
	greatest = math.MaxInt64
)

// numbers has those near 0, near both bounds, and near where products begin to overflow.
func numbers() []int64 {
	var l []int64
	for _, mid := range []int64{0, 7, -7, 1000, -1000, 1 << 31, -1 << 31, 1 << 32, -1 << 32, 3037000500, -3037000500, greatest / 2, least / 2, greatest / 3, greatest - 2, least + 2} {
		for d := int64(-2); d <= 2; d++ {
			l = append(l, mid+d)
		}
	}
	return l
}

func bounded(x *big.Int) int64 {
	if x.IsInt64() {
		return x.Int64()
	}
	if x.Sign() < 0 {
		return least
	}
	return greatest
}

func TestAddSubMulAgainstUnbounded(t *testing.T) {
	for _, a := range numbers() {
		for _, b := range numbers() {
			x, y := big.NewInt(a), big.NewInt(b)
			if got, want := fixed.Add(a, b), bounded(new(big.Int).Add(x, y)); got != want {
				t.Errorf("Add(%d, %d) = %d, want %d", a, b, got, want)
			}
			if got, want := fixed.Sub(a, b), bounded(new(big.Int).Sub(x, y)); got != want {
				t.Errorf("Sub(%d, %d) = %d, want %d", a, b, got, want)
			}
			if got, want := fixed.Mul(a, b), bounded(new(big.Int).Mul(x, y)); got != want {
				t.Errorf("Mul(%d, %d) = %d, want %d", a, b, got, want)
			}
		}
	}
}

func TestAbs(t *testing.T) {
	for _, a := range numbers() {
		if got, want := fixed.Abs(a), bounded(new(big.Int).Abs(big.NewInt(a))); got != want {
			t.Errorf("Abs(%d) = %d, want %d", a, got, want)
		}
	}
}

func TestDownAndUpAreTheNearest(t *testing.T) {
	for _, a := range numbers() {
		for _, b := range numbers() {
			down, up := fixed.Down(a, b), fixed.Up(a, b)
			if b < 1 {
				if down != 0 || up != 0 {
					t.Errorf("Down, Up(%d, %d) = %d, %d, want 0, 0", a, b, down, up)
				}
				continue
			}
			x, y, one := big.NewInt(a), big.NewInt(b), big.NewInt(1)
			times := func(n *big.Int) *big.Int { return new(big.Int).Mul(n, y) }
			d, u := big.NewInt(down), big.NewInt(up)
			if times(d).Cmp(x) > 0 || times(new(big.Int).Add(d, one)).Cmp(x) <= 0 {
				t.Errorf("Down(%d, %d) = %d", a, b, down)
			}
			if times(u).Cmp(x) < 0 || times(new(big.Int).Sub(u, one)).Cmp(x) >= 0 {
				t.Errorf("Up(%d, %d) = %d", a, b, up)
			}
		}
	}
	if got := fixed.Down(-1, 2); got != -1 {
		t.Errorf("Down(-1, 2) = %d, want -1", got)
	}
}

func TestClamp(t *testing.T) {
	for _, c := range []struct{ x, lo, hi, want int64 }{
		{5, 0, 10, 5}, {-1, 0, 10, 0}, {11, 0, 10, 10}, {0, 0, 10, 0}, {10, 0, 10, 10},
		{least, -3, 3, -3}, {greatest, -3, 3, 3}, {7, 4, 4, 4},
		{5, 10, 0, 10}, {15, 10, 0, 10}, {-5, 10, 0, 10}, // lo comes last
	} {
		if got := fixed.Clamp(c.x, c.lo, c.hi); got != c.want {
			t.Errorf("Clamp(%d, %d, %d) = %d, want %d", c.x, c.lo, c.hi, got, c.want)
		}
	}
}
