package fraction_test

import (
	"fmt"
	"math"
	"math/big"
	"math/rand"
	"testing"

	"dataenclave/api"
	"dataenclave/fraction"
)

func want(t *testing.T, name string, got, want any) {
	t.Helper()
	if fmt.Sprint(got) != fmt.Sprint(want) {
		t.Errorf("%s: got %v, want %v", name, got, want)
	}
}

func frac(num, den int) api.Frac { return api.Frac{Num: num, Den: den} }

const most = api.MaxFrac

// TestValid is about P6.1.
func TestValid(t *testing.T) {
	for _, a := range []api.Frac{frac(0, 1), frac(1, 1), frac(-1, 1), frac(2, 3), frac(-3, 2), frac(most, 1), frac(-most, 1), frac(1, most), frac(-1, most), frac(most-1, most), frac(most, most-1)} {
		want(t, fmt.Sprint(a), fraction.Valid(a), true)
	}
	for _, a := range []api.Frac{{}, frac(1, 0), frac(0, 2), frac(0, -1), frac(1, -1), frac(-1, -1), frac(2, 4), frac(-6, 3), frac(most, most), frac(most+1, 1), frac(-most-1, 1), frac(1, most+1), frac(math.MinInt, 1), frac(math.MaxInt, 2), frac(1, math.MinInt), frac(math.MinInt, math.MinInt), frac(0, math.MaxInt)} {
		want(t, fmt.Sprint(a), fraction.Valid(a), false)
	}
}

// TestOf is about P6.1.
func TestOf(t *testing.T) {
	for _, c := range []struct {
		num, den int
		a        api.Frac
		e        api.Errno
	}{
		{6, 4, frac(3, 2), api.OK}, {-6, 4, frac(-3, 2), api.OK}, {6, -4, frac(-3, 2), api.OK}, {-6, -4, frac(3, 2), api.OK},
		{0, 7, frac(0, 1), api.OK}, {0, -7, frac(0, 1), api.OK}, {0, math.MinInt, frac(0, 1), api.OK}, {7, 7, frac(1, 1), api.OK},
		{5, 0, frac(0, 0), api.ErrEmpty}, {0, 0, frac(0, 0), api.ErrEmpty}, {math.MinInt, 0, frac(0, 0), api.ErrEmpty},
		{most, 1, frac(most, 1), api.OK}, {most + 1, 1, frac(0, 0), api.ErrOverflow}, {2 * most, 2, frac(most, 1), api.OK}, {1, most + 1, frac(0, 0), api.ErrOverflow}, {-most - 1, 1, frac(0, 0), api.ErrOverflow}, {1, -most, frac(-1, most), api.OK},
		{math.MinInt, 8, frac(-most, 1), api.OK}, {math.MinInt, -8, frac(most, 1), api.OK}, {math.MinInt, 4, frac(0, 0), api.ErrOverflow}, {8, math.MinInt, frac(-1, most), api.OK},
		{math.MinInt, math.MinInt, frac(1, 1), api.OK}, {math.MaxInt, math.MaxInt, frac(1, 1), api.OK}, {math.MinInt, math.MaxInt, frac(0, 0), api.ErrOverflow}, {math.MaxInt, 7, frac(0, 0), api.ErrOverflow},
		{math.MaxInt, 49, frac(math.MaxInt/49, 1), api.OK},
	} {
		a, e := fraction.Of(c.num, c.den)
		want(t, fmt.Sprint(c.num, " / ", c.den), fmt.Sprint(a, e), fmt.Sprint(c.a, c.e))
	}
}

// number makes a valid fraction whose parts have up to so many bits.
func number(r *rand.Rand, bits int) api.Frac {
	for {
		a, e := fraction.Of(int(r.Int63()>>(63-bits))-int(r.Int63()>>(63-bits)), 1+int(r.Int63()>>(63-bits)))
		if e == api.OK {
			return a
		}
	}
}

func exact(a api.Frac) *big.Rat { return big.NewRat(int64(a.Num), int64(a.Den)) }

// result is what a calculation has to return whose exact result is given.
func result(x *big.Rat) string {
	limit := big.NewInt(most)
	if x.Denom().Cmp(limit) > 0 || new(big.Int).Abs(x.Num()).Cmp(limit) > 0 {
		return fmt.Sprint(api.Frac{}, api.ErrOverflow)
	}
	return fmt.Sprint(frac(int(x.Num().Int64()), int(x.Denom().Int64())), api.OK)
}

// TestAgainstBigNumbers is about P6.2 and P6.3: small fractions, and such that are as large as they can be.
func TestAgainstBigNumbers(t *testing.T) {
	r := rand.New(rand.NewSource(3))
	for i := range 6000 {
		bits := 2 + i%59
		a, b := number(r, bits), number(r, 2+r.Intn(58))
		if r.Intn(3) == 0 {
			b.Den = a.Den
			if !fraction.Valid(b) {
				continue
			}
		}
		x, y := exact(a), exact(b)
		for _, c := range []struct {
			name string
			do   func(a, b api.Frac) (api.Frac, api.Errno)
			z    *big.Rat
		}{{"add", fraction.Add, new(big.Rat).Add(x, y)}, {"sub", fraction.Sub, new(big.Rat).Sub(x, y)}, {"mul", fraction.Mul, new(big.Rat).Mul(x, y)}} {
			z, e := c.do(a, b)
			want(t, fmt.Sprint(c.name, a, b), fmt.Sprint(z, e), result(c.z))
		}
		z, e := fraction.Div(a, b)
		if b.Num == 0 {
			want(t, "div by 0", fmt.Sprint(z, e), fmt.Sprint(api.Frac{}, api.ErrEmpty))
		} else {
			want(t, fmt.Sprint("div", a, b), fmt.Sprint(z, e), result(new(big.Rat).Quo(x, y)))
		}
		want(t, fmt.Sprint("less", a, b), fraction.Less(a, b), x.Cmp(y) < 0)
		want(t, "not less than itself", fraction.Less(a, a), false)
		floor := fraction.Floor(a)
		want(t, fmt.Sprint("floor", a), big.NewRat(int64(floor), 1).Cmp(x) <= 0 && big.NewRat(int64(floor)+1, 1).Cmp(x) > 0, true)
		text := x.RatString()
		want(t, "text", fraction.Text(a), text)
	}
}

// TestLargeOnTheWay is about P6.2: only the result counts, however large the numbers on the way are.
func TestLargeOnTheWay(t *testing.T) {
	for _, c := range []struct {
		name string
		a, b api.Frac
		do   func(a, b api.Frac) (api.Frac, api.Errno)
		z    api.Frac
		e    api.Errno
	}{
		{"add", frac(most-1, most), frac(1, most), fraction.Add, frac(1, 1), api.OK},
		{"add", frac(most, 1), frac(-most, 1), fraction.Add, frac(0, 1), api.OK},
		{"add", frac(most, 1), frac(1, 1), fraction.Add, api.Frac{}, api.ErrOverflow},
		{"add", frac(-most, 1), frac(-most, 1), fraction.Add, api.Frac{}, api.ErrOverflow},
		{"add", frac(most-1, most), frac(most-1, most), fraction.Add, frac(most-1, most/2), api.OK},
		{"add", frac(most, most-1), frac(most-1, most), fraction.Add, api.Frac{}, api.ErrOverflow},
		{"sub", frac(most-1, most), frac(-1, most), fraction.Sub, frac(1, 1), api.OK},
		{"sub", frac(-most, 1), frac(1, 1), fraction.Sub, api.Frac{}, api.ErrOverflow},
		{"mul", frac(most, most-1), frac(most-1, most), fraction.Mul, frac(1, 1), api.OK},
		{"mul", frac(most, 1), frac(-1, most), fraction.Mul, frac(-1, 1), api.OK},
		{"mul", frac(1<<30, 1), frac(1<<30, 1), fraction.Mul, frac(most, 1), api.OK},
		{"mul", frac(1<<30, 1), frac(1<<30+1, 1), fraction.Mul, api.Frac{}, api.ErrOverflow},
		{"mul", frac(most, 1), frac(most, 1), fraction.Mul, api.Frac{}, api.ErrOverflow},
		{"div", frac(most, most-1), frac(most, most-1), fraction.Div, frac(1, 1), api.OK},
		{"div", frac(-most, 1), frac(-most, 1), fraction.Div, frac(1, 1), api.OK},
		{"div", frac(1, most), frac(2, 1), fraction.Div, api.Frac{}, api.ErrOverflow},
		{"div", frac(0, 1), frac(-5, 3), fraction.Div, frac(0, 1), api.OK},
		{"div", frac(3, 4), frac(-5, 2), fraction.Div, frac(-3, 10), api.OK},
	} {
		z, e := c.do(c.a, c.b)
		want(t, fmt.Sprint(c.name, c.a, c.b), fmt.Sprint(z, e), fmt.Sprint(c.z, c.e))
	}
}

// TestErrors is about P6.2 and P6.3: arguments that are not valid, which come first.
func TestErrors(t *testing.T) {
	good := frac(1, 2)
	for _, bad := range []api.Frac{{}, frac(2, 4), frac(1, -2), frac(most+1, 1), frac(0, 3)} {
		for i, do := range []func(a, b api.Frac) (api.Frac, api.Errno){fraction.Add, fraction.Sub, fraction.Mul, fraction.Div} {
			for _, pair := range [][2]api.Frac{{bad, good}, {good, bad}, {bad, bad}, {bad, frac(0, 1)}} {
				z, e := do(pair[0], pair[1])
				want(t, fmt.Sprint(i, pair), fmt.Sprint(z, e), fmt.Sprint(api.Frac{}, api.ErrForm))
			}
		}
		want(t, "less", fraction.Less(bad, good) || fraction.Less(good, bad) || fraction.Less(bad, frac(9, 1)), false)
		want(t, "floor", fraction.Floor(bad), 0)
		want(t, "text", fraction.Text(bad), "?")
	}
	_, e := fraction.Div(good, frac(0, 1))
	want(t, "div by 0", e, api.ErrEmpty)
}

// TestNamed is about P6.2 and P6.3: the examples of the chapter.
func TestNamed(t *testing.T) {
	z, e := fraction.Add(frac(1, 6), frac(1, 3))
	want(t, "a sixth and a third", fmt.Sprint(z, e), "{1 2} 0")
	for _, c := range []struct {
		a     api.Frac
		floor int
		text  string
	}{{frac(-1, 2), -1, "-1/2"}, {frac(1, 2), 0, "1/2"}, {frac(-3, 1), -3, "-3"}, {frac(7, 2), 3, "7/2"}, {frac(-7, 2), -4, "-7/2"}, {frac(0, 1), 0, "0"}, {frac(most, 1), most, "1152921504606846976"}, {frac(-1, most), -1, "-1/1152921504606846976"}} {
		want(t, "floor", fraction.Floor(c.a), c.floor)
		want(t, "text", fraction.Text(c.a), c.text)
	}
	want(t, "less", fraction.Less(frac(-most, most-1), frac(-1, 1)), true)
	want(t, "less", fraction.Less(frac(most, most-1), frac(1, 1)), false)
	want(t, "less", fraction.Less(frac(most-1, most), frac(most, most-1)), true)
}
