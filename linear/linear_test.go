package linear_test

import (
	"fmt"
	"math"
	"math/big"
	"math/rand"
	"testing"

	"dataenclave/api"
	"dataenclave/linear"
)

func want(t *testing.T, name string, got, want any) {
	t.Helper()
	if fmt.Sprint(got) != fmt.Sprint(want) {
		t.Errorf("%s: got %v, want %v", name, got, want)
	}
}

// diagonal is a matrix with some numbers on the diagonal.
func diagonal(l ...int) [][]int {
	var a [][]int
	for i, x := range l {
		a = append(a, make([]int, len(l)))
		a[i][i] = x
	}
	return a
}

// TestCheck is about P7.1: each error, and their order.
func TestCheck(t *testing.T) {
	const most = 1 << 31
	for _, c := range []struct {
		name string
		a    [][]int
		e    api.Errno
	}{
		{"nothing", nil, api.ErrEmpty},
		{"one", [][]int{{5}}, api.OK},
		{"five rows", diagonal(1, 2, 3, 4, 5), api.OK},
		{"six rows", diagonal(1, 2, 3, 4, 5, 6), api.ErrLimit},
		{"six rows of another length", make([][]int, 6), api.ErrLimit},
		{"an empty row", [][]int{{}}, api.ErrLength},
		{"a long row", [][]int{{1, 2}}, api.ErrLength},
		{"a short row behind one that is out of range", [][]int{{most + 1, 1}, {1}}, api.ErrLength},
		{"the greatest element", [][]int{{most}}, api.OK},
		{"the least element", [][]int{{-most}}, api.OK},
		{"too great", [][]int{{1, 0}, {0, most + 1}}, api.ErrRange},
		{"too small", [][]int{{-most - 1}}, api.ErrRange},
		{"the least int", [][]int{{math.MinInt}}, api.ErrRange},
		{"the range before the size", append(diagonal(most, most, most, most, most)[:4], []int{0, 0, 0, 0, most + 1}), api.ErrRange},
		{"the greatest size", diagonal(1<<30, 1<<30, -1<<30, 1<<30), api.OK},
		{"the greatest size, in another way", diagonal(1<<31, 1<<29, 1<<31, 1<<29), api.OK},
		{"a greater size", diagonal(1<<30, 1<<30, 1<<30, 1<<30+1), api.ErrOverflow},
		{"a size that a row of zeros does not change", diagonal(1<<30, 1<<30, 0, 1<<30, 1<<30), api.OK},
		{"a greater size with a row of zeros", diagonal(1<<30, 1<<30, 0, 1<<30, 1<<30+1), api.ErrOverflow},
		{"a greater size before a row of zeros", diagonal(1<<31, 1<<31, 1<<31, 1<<31, 0), api.ErrOverflow},
		{"the greatest sums", [][]int{{most, most, -most, most, most}, {most, most, most, most, -most}, {0, 0, 0, 0, 1}, {0, 0, 0, 0, 0}, {1, 0, 0, 0, 0}}, api.OK},
		{"elements that are negative count", [][]int{{1 << 30, -1, 0, 0}, {0, 1 << 30, 0, 0}, {0, 0, 1 << 30, 0}, {0, 0, 0, 1 << 30}}, api.ErrOverflow},
	} {
		want(t, c.name, linear.Check(c.a), c.e)
	}
}

// determinant is an independent one, by the first column.
func determinant(a [][]int) *big.Int {
	sum := big.NewInt(0)
	if len(a) == 0 {
		return big.NewInt(1)
	}
	for i := range a {
		var rest [][]int
		for k, row := range a {
			if k != i {
				rest = append(rest, row[1:])
			}
		}
		x := new(big.Int).Mul(big.NewInt(int64(a[i][0])), determinant(rest))
		if i%2 == 1 {
			x.Neg(x)
		}
		sum.Add(sum, x)
	}
	return sum
}

func random(r *rand.Rand, n, most int) [][]int {
	a := make([][]int, n)
	for i := range a {
		for range n {
			a[i] = append(a[i], r.Intn(2*most+1)-most)
		}
	}
	return a
}

// result is what has to be returned for an exact number.
func result(x *big.Rat) string {
	limit := big.NewInt(api.MaxFrac)
	if x.Denom().Cmp(limit) > 0 || new(big.Int).Abs(x.Num()).Cmp(limit) > 0 {
		return fmt.Sprint(api.Frac{}, api.ErrOverflow)
	}
	return fmt.Sprint(api.Frac{Num: int(x.Num().Int64()), Den: int(x.Denom().Int64())}, api.OK)
}

// TestZeroAndRatio is about P7.2.
func TestZeroAndRatio(t *testing.T) {
	r := rand.New(rand.NewSource(1))
	for i := range 1500 {
		most := []int{1, 2, 100, 1 << 20, 1 << 24}[i%5]
		a, b := random(r, 1+r.Intn(5), most), random(r, 1+r.Intn(5), most)
		x, y := determinant(a), determinant(b)
		fits := linear.Check(a) == api.OK
		want(t, fmt.Sprint("zero ", a), linear.Zero(a), fits && x.Sign() == 0)
		f, e := linear.Ratio(a, b)
		switch {
		case !fits || linear.Check(b) != api.OK:
			want(t, "not checked", fmt.Sprint(f, e), fmt.Sprint(api.Frac{}, api.ErrOverflow))
		case y.Sign() == 0:
			want(t, "singular", fmt.Sprint(f, e), fmt.Sprint(api.Frac{}, api.ErrSingular))
		default:
			want(t, fmt.Sprint("ratio ", a, b), fmt.Sprint(f, e), result(new(big.Rat).SetFrac(x, y)))
		}
	}
	large := diagonal(1<<30, 1<<30, 1<<30, 1<<30)
	f, e := linear.Ratio(large, diagonal(1<<30, 1<<30, 1<<30, -1<<30))
	want(t, "of the greatest determinants", fmt.Sprint(f, e), "{-1 1} 0")
	f, e = linear.Ratio(large, diagonal(1<<30, 1<<30))
	want(t, "just not too large", fmt.Sprint(f, e), fmt.Sprint(api.Frac{Num: 1 << 60, Den: 1}, api.OK))
	f, e = linear.Ratio(large, diagonal(1<<30, 1<<29))
	want(t, "too large", fmt.Sprint(f, e), fmt.Sprint(api.Frac{}, api.ErrOverflow))
	for _, c := range []struct {
		a, b [][]int
		e    api.Errno
	}{{nil, [][]int{{}}, api.ErrEmpty}, {[][]int{{1}}, [][]int{{}}, api.ErrLength}, {[][]int{{1}}, nil, api.ErrEmpty}, {[][]int{{1}}, [][]int{{0}}, api.ErrSingular}, {[][]int{{0}}, [][]int{{-7}}, api.OK}, {[][]int{{}}, [][]int{{0}}, api.ErrLength}} {
		_, e := linear.Ratio(c.a, c.b)
		want(t, fmt.Sprint(c.a, c.b), e, c.e)
	}
	want(t, "no matrix is not singular", linear.Zero(nil) || linear.Zero([][]int{{}}) || linear.Zero([][]int{{0, 0}}), false)
}

// TestSolve is about P7.3, by putting solutions into the equations.
func TestSolve(t *testing.T) {
	r := rand.New(rand.NewSource(2))
	for i := range 1000 {
		n := 1 + r.Intn(5)
		a, b := random(r, n, []int{2, 9, 1000}[i%3]), random(r, n, 50)[0]
		l, e := linear.Solve(a, b)
		if determinant(a).Sign() == 0 {
			want(t, "singular", fmt.Sprint(l, e), fmt.Sprint([]api.Frac{}, api.ErrSingular))
			continue
		}
		want(t, "error", e, api.OK)
		want(t, "length", len(l), n)
		for i, row := range a {
			sum := new(big.Rat)
			for k, x := range row {
				sum.Add(sum, new(big.Rat).Mul(big.NewRat(int64(x), 1), big.NewRat(int64(l[k].Num), int64(l[k].Den))))
			}
			want(t, fmt.Sprint(a, b, l), sum.RatString(), fmt.Sprint(b[i]))
		}
	}
	l, e := linear.Solve([][]int{{2, 1}, {1, -1}}, []int{5, 1})
	want(t, "the chapter's example", fmt.Sprint(l, e), "[{2 1} {1 1}] 0")
}

// TestSolveErrors is about P7.3: errors and their order.
func TestSolveErrors(t *testing.T) {
	const big30 = 1 << 30
	for _, c := range []struct {
		name string
		a    [][]int
		b    []int
		e    api.Errno
	}{
		{"a first", [][]int{{1 << 40}}, nil, api.ErrRange},
		{"the length of b", [][]int{{0}}, nil, api.ErrLength},
		{"the length of b", [][]int{{0}}, []int{1, 1 << 40}, api.ErrLength},
		{"the range of b before singular", [][]int{{0}}, []int{1<<31 + 1}, api.ErrRange},
		{"the greatest b", [][]int{{1}}, []int{1 << 31}, api.OK},
		{"the size with b", diagonal(big30, big30, big30, big30), []int{0, big30, big30, big30 + 1}, api.ErrOverflow},
		{"the size with b at a late column", [][]int{{big30, 1, 0, 0}, {0, big30, 0, 0}, {0, 0, big30, 0}, {0, 0, 0, 1 << 28}}, []int{1, 1, 1, 1 << 30}, api.ErrOverflow},
		{"singular", [][]int{{1, 2}, {2, 4}}, []int{1, 2}, api.ErrSingular},
	} {
		l, e := linear.Solve(c.a, c.b)
		want(t, c.name, e, c.e)
		if c.e != api.OK {
			want(t, c.name, l, []api.Frac{})
		}
	}
	// Its determinants are too large for fractions, and have nothing in common.
	l, e := linear.Solve([][]int{{1 << 20, 1, 0, 0}, {0, 1<<21 - 1, 1, 0}, {0, 0, 1<<22 - 1, 1}, {1, 0, 0, 1<<20 + 7}}, []int{0, 0, 1, 0})
	want(t, "overflow", fmt.Sprint(l, e), fmt.Sprint([]api.Frac{}, api.ErrOverflow))
}

// kernel is found by elimination over big fractions.
func kernel(a [][]int) []string {
	n := len(a)
	var basis [][]*big.Rat
	for column := range n {
		// Column column is brought to 0 by the ones before it, if that is possible.
		v := make([]*big.Rat, 2*n)
		for i := range v {
			v[i] = new(big.Rat)
			if i < n {
				v[i].SetInt64(int64(a[i][column]))
			}
		}
		v[n+column].SetInt64(1)
		for _, b := range basis {
			p := 0
			for b[p].Sign() == 0 {
				p++
			}
			f := new(big.Rat).Quo(v[p], b[p])
			for i := range v {
				v[i].Sub(v[i], new(big.Rat).Mul(f, b[i]))
			}
		}
		zero := true
		for _, x := range v[:n] {
			zero = zero && x.Sign() == 0
		}
		if zero {
			var l []string
			for _, x := range v[n:] {
				l = append(l, fmt.Sprintf("{%v %v}", x.Num(), x.Denom()))
			}
			return l
		}
		basis = append(basis, v)
	}
	return nil
}

// TestKernel is about P7.4.
func TestKernel(t *testing.T) {
	r := rand.New(rand.NewSource(3))
	for i := range 1500 {
		a := random(r, 1+r.Intn(5), []int{1, 1, 3}[i%3])
		if i%2 == 0 && len(a) > 1 { // two rows, or two columns, depend on each other
			f, from, to := r.Intn(7)-3, r.Intn(len(a)), r.Intn(len(a))
			for k := range a {
				if i%4 == 0 {
					a[to][k] = f * a[from][k]
				} else {
					a[k][to] = f * a[k][from]
				}
			}
		}
		want(t, fmt.Sprint("kernel of ", a), linear.Kernel(a), kernel(a))
	}
	for _, c := range []struct {
		a [][]int
		l []api.Frac
	}{
		{[][]int{{1, 2}, {2, 4}}, []api.Frac{{Num: -2, Den: 1}, {Num: 1, Den: 1}}},
		{[][]int{{0}}, []api.Frac{{Num: 1, Den: 1}}},
		{[][]int{{0, 1}, {0, 5}}, []api.Frac{{Num: 1, Den: 1}, {Num: 0, Den: 1}}},
		{[][]int{{1, 2}, {2, 5}}, nil}, {nil, nil}, {[][]int{{0, 0}}, nil}, {[][]int{{}}, nil}, {diagonal(0, 1<<31, 1<<31, 1<<31, 1<<31), nil},
	} {
		want(t, fmt.Sprint(c.a), linear.Kernel(c.a), c.l)
	}
}

// TestKernelOverflow is about P7.4: an element that is no valid fraction.
func TestKernelOverflow(t *testing.T) {
	a := [][]int{{1<<25 - 39, 1, 0, 0}, {0, 1<<25 - 49, 1, 0}, {0, 0, 1<<25 - 61, 1}, {0, 0, 0, 0}}
	want(t, "it is singular", linear.Zero(a), true)
	want(t, "too large a fraction", linear.Kernel(a), []api.Frac{})
	want(t, "the exact one", len(kernel(a)), 4)
}
