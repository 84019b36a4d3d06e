package wide_test

import (
	"fmt"
	"math"
	"math/big"
	"math/rand"
	"testing"

	"dataenclave/wide"
)

// random returns a number of at most 126 bits in both forms.
func random(r *rand.Rand) (wide.Int, *big.Int) {
	a, b, c := r.Int63()>>r.Intn(63), r.Int63()>>r.Intn(63), r.Int63()
	if r.Intn(2) == 0 {
		a = -a
	}
	if r.Intn(3) == 0 {
		b = 1
	}
	if r.Intn(3) == 0 {
		c = 0
	}
	w := wide.Of(int(a)).Times(wide.Of(int(b))).Plus(wide.Of(int(c)))
	n := new(big.Int).Mul(big.NewInt(a), big.NewInt(b))
	return w, n.Add(n, big.NewInt(c))
}

// show returns the decimal text of a number, by means of its own functions.
func show(a wide.Int) string {
	if a.Sign() < 0 {
		return "-" + show(a.Size())
	}
	if n, ok := a.Int(); ok {
		return fmt.Sprint(n)
	}
	quotient, rest := wide.Divide(a, wide.Of(10))
	digit, _ := rest.Int()
	return show(quotient) + fmt.Sprint(digit)
}

func want(t *testing.T, name string, got, want any) {
	t.Helper()
	if fmt.Sprint(got) != fmt.Sprint(want) {
		t.Errorf("%s: got %v, want %v", name, got, want)
	}
}

func TestAgainstBigNumbers(t *testing.T) {
	r := rand.New(rand.NewSource(1))
	for range 3000 {
		a, x := random(r)
		b, y := random(r)
		want(t, "text", show(a), x)
		want(t, "sum", show(a.Plus(b)), new(big.Int).Add(x, y))
		want(t, "difference", show(a.Minus(b)), new(big.Int).Sub(x, y))
		want(t, "sign", a.Sign(), x.Sign())
		want(t, "size", show(a.Size()), new(big.Int).Abs(x))
		want(t, "less", a.Less(b), x.Cmp(y) < 0)
		if b.Sign() == 0 {
			continue
		}
		x.Abs(x)
		y.Abs(y)
		quotient, rest := wide.Divide(a.Size(), b.Size())
		q, m := new(big.Int).QuoRem(x, y, new(big.Int))
		want(t, "quotient", show(quotient), q)
		want(t, "rest", show(rest), m)
		want(t, "common", show(wide.Common(a.Size(), b.Size())), new(big.Int).GCD(nil, nil, x, y))
	}
}

func TestProducts(t *testing.T) {
	r := rand.New(rand.NewSource(2))
	for range 2000 {
		a, x := int(r.Int63()), new(big.Int)
		n, e := int(r.Int31())-1<<30, wide.Of(a)
		e = e.Times(wide.Of(n))
		x.Mul(big.NewInt(int64(a)), big.NewInt(int64(n)))
		want(t, "product", show(e), x)
		k := r.Intn(1<<31) - 1<<30
		want(t, "product of a wide one", show(e.Times(wide.Of(k))), x.Mul(x, big.NewInt(int64(k))))
	}
}

func TestEnds(t *testing.T) {
	for _, n := range []int{0, 1, -1, math.MaxInt, math.MinInt, math.MinInt + 1} {
		back, ok := wide.Of(n).Int()
		want(t, "there and back", fmt.Sprint(back, ok), fmt.Sprint(n, true))
	}
	_, ok := wide.Of(math.MaxInt).Plus(wide.Of(1)).Int()
	want(t, "too great", ok, false)
	_, ok = wide.Of(math.MinInt).Minus(wide.Of(1)).Int()
	want(t, "too small", ok, false)
	want(t, "the size of the least int", show(wide.Of(math.MinInt).Size()), "9223372036854775808")
	want(t, "the sign of a round number", wide.Of(1<<32).Times(wide.Of(1<<32)).Sign(), 1)
	want(t, "common with 0", show(wide.Common(wide.Of(0), wide.Of(6))), 6)
	want(t, "common with 0", show(wide.Common(wide.Of(6), wide.Of(0))), 6)
}
