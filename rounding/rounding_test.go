package rounding_test

import (
	"fmt"
	"math"
	"math/rand"
	"slices"
	"testing"

	"dataenclave/api"
	"dataenclave/rounding"
)

func want(t *testing.T, name string, got, want any) {
	t.Helper()
	if fmt.Sprint(got) != fmt.Sprint(want) {
		t.Errorf("%s: got %v, want %v", name, got, want)
	}
}

// rounds reports, by the definition, whether a table is rounded by another one.
func rounds(rows, columns int, table, rounded []int, base int) bool {
	sums := func(of []int) []int {
		l := slices.Clone(of)
		all := 0
		for r := range rows {
			sum := 0
			for c := range columns {
				sum += of[r*columns+c]
			}
			l, all = append(l, sum), all+sum
		}
		for c := range columns {
			sum := 0
			for r := range rows {
				sum += of[r*columns+c]
			}
			l = append(l, sum)
		}
		return append(l, all)
	}
	a, b := sums(table), sums(rounded)
	for i := range a {
		if b[i]%base != 0 || b[i]-a[i] >= base || a[i]-b[i] >= base {
			return false
		}
	}
	return true
}

// shapes are rows and columns of small tables.
func shapes() [][2]int { return [][2]int{{1, 1}, {1, 5}, {4, 1}, {2, 2}, {2, 3}, {3, 2}, {3, 3}} }

func random(r *rand.Rand, n, most int) []int {
	var l []int
	for range n {
		l = append(l, r.Intn(most+1))
	}
	return l
}

// TestRound is about P34.2: the least of all rounded tables.
func TestRound(t *testing.T) {
	l, e := rounding.Round(2, 2, []int{1, 1, 1, 2}, 3)
	want(t, "the chapter's example", fmt.Sprint(l, e), "[0 0 0 3] 0")
	r := rand.New(rand.NewSource(1))
	for range 150 {
		for _, shape := range shapes() {
			base := 1 + r.Intn(7)
			table := random(r, shape[0]*shape[1], 12)
			values, e := rounding.Values(table, base)
			want(t, "values", e, api.OK)
			var least []int
			rounded := make([]int, len(table))
			var try func(i int)
			try = func(i int) {
				if i == len(table) {
					if least == nil && rounds(shape[0], shape[1], table, rounded, base) {
						least = slices.Clone(rounded)
					}
					return
				}
				for _, n := range values[i] {
					rounded[i] = n
					try(i + 1)
				}
			}
			try(0)
			before := slices.Clone(table)
			l, e := rounding.Round(shape[0], shape[1], table, base)
			want(t, fmt.Sprint(shape, table, base), fmt.Sprint(l, e), fmt.Sprint(least, api.OK))
			want(t, "there always is one", least != nil, true)
			want(t, "it stays", table, before)
			ok, e := rounding.Check(shape[0], shape[1], table, l, base)
			want(t, "checked", fmt.Sprint(ok, e), "true 0")
			again, _ := rounding.Round(shape[0], shape[1], l, base)
			want(t, "again", again, l)
		}
	}
	l, e = rounding.Round(3, 4, slices.Repeat([]int{api.MaxValue - 1}, 12), 20)
	want(t, "great numbers", fmt.Sprint(len(l), e), "12 0")
	l, e = rounding.Round(2, 3, []int{5, 0, 7, 1, 2, 3}, 1)
	want(t, "the base 1", fmt.Sprint(l, e), "[5 0 7 1 2 3] 0")
}

// TestCheck is about P34.1.
func TestCheck(t *testing.T) {
	r := rand.New(rand.NewSource(2))
	yes := 0
	for range 400 {
		for _, shape := range shapes() {
			base := 1 + r.Intn(4)
			table := random(r, shape[0]*shape[1], 9)
			rounded := slices.Clone(table)
			for i := range rounded {
				rounded[i] += -rounded[i]%base + base*r.Intn(2)
				if r.Intn(30) == 0 {
					rounded[i] += r.Intn(5) - 2
				}
			}
			should := rounds(shape[0], shape[1], table, rounded, base)
			if should {
				yes++
			}
			ok, e := rounding.Check(shape[0], shape[1], table, rounded, base)
			want(t, fmt.Sprint(shape, table, rounded, base), fmt.Sprint(ok, e), fmt.Sprint(should, api.OK))
		}
	}
	want(t, "some are", yes > 100, true)
	for i, c := range []struct {
		table, rounded []int
		base           int
		is             bool
	}{
		{[]int{1, 1, 1, 2}, []int{0, 0, 0, 3}, 3, true}, {[]int{1, 1, 1, 2}, []int{0, 0, 3, 3}, 3, false}, {[]int{1, 1, 1, 2}, []int{0, 0, 0, 0}, 3, false}, {[]int{1, 1, 1, 2}, []int{3, 0, 0, 3}, 3, true}, {[]int{3, 0, 0, 0}, []int{0, 0, 0, 0}, 3, false}, {[]int{0, 0, 0, 0}, []int{0, 0, 0, -3}, 3, false}, {[]int{1, 1, 1, 2}, []int{math.MinInt, math.MaxInt, 0, 3}, 3, false}, {[]int{1, 1, 1, 2}, []int{0, 0, 0, 2}, 3, false}, {[]int{2, 2, 1, 1}, []int{3, 3, 0, 0}, 3, true}, {[]int{1, 2, 1, 2}, []int{3, 0, 0, 3}, 3, true}, {[]int{1, 2, 1, 2}, []int{3, 3, 0, 0}, 3, false},
	} {
		ok, e := rounding.Check(2, 2, c.table, c.rounded, c.base)
		want(t, fmt.Sprint(i), fmt.Sprint(ok, e), fmt.Sprint(c.is, api.OK))
	}
}

// TestErrors is about P34.1 to P34.3: errors, of which the first one counts.
func TestErrors(t *testing.T) {
	for i, c := range []struct {
		rows, columns int
		table         []int
		base          int
		e             api.Errno
	}{
		{0, 1, nil, 0, api.ErrSpace}, {1, 0, nil, 0, api.ErrSpace}, {-1, -1, []int{1}, 1, api.ErrSpace}, {1, 13, make([]int, 13), 1, api.ErrSpace}, {5, 3, make([]int, 15), 0, api.ErrSpace}, {1 << 32, 1 << 32, nil, 1, api.ErrSpace}, {math.MaxInt, math.MaxInt, []int{1}, 1, api.ErrSpace}, {math.MinInt, 1, nil, 1, api.ErrSpace},
		{12, 1, make([]int, 12), 1, api.OK}, {3, 4, make([]int, 12), 20, api.OK},
		{2, 2, []int{-1, 1, 1}, 0, api.ErrLength}, {2, 2, []int{-1, 1, 1, 1, 1}, 0, api.ErrLength},
		{1, 2, []int{0, -1}, 1, api.ErrRange}, {1, 2, []int{api.MaxValue + 1, 0}, 1, api.ErrRange}, {1, 2, []int{api.MaxValue, 0}, 1, api.OK}, {1, 2, []int{0, 0}, 0, api.ErrRange}, {1, 2, []int{0, 0}, 21, api.ErrRange}, {1, 2, []int{0, 0}, math.MinInt, api.ErrRange},
	} {
		l, e := rounding.Round(c.rows, c.columns, c.table, c.base)
		want(t, fmt.Sprint("round ", i), fmt.Sprint(len(l) > 0, e), fmt.Sprint(c.e == api.OK, c.e))
		ok, e := rounding.Check(c.rows, c.columns, c.table, l, c.base)
		should := c.e
		if c.e == api.ErrRange {
			should = api.ErrLength // nothing is no table
		}
		want(t, fmt.Sprint("check ", i), fmt.Sprint(ok, e), fmt.Sprint(c.e == api.OK, should))
		ok, e = rounding.Check(c.rows, c.columns, c.table, make([]int, len(c.table)), c.base)
		if c.e != api.OK {
			want(t, fmt.Sprint("check ", i), fmt.Sprint(ok, e), fmt.Sprint(false, c.e))
		}
	}
	_, e := rounding.Check(1, 2, []int{1, 2}, []int{1, 2, 3}, 1)
	want(t, "a longer one", e, api.ErrLength)
}

// TestValues is about P34.3.
func TestValues(t *testing.T) {
	l, e := rounding.Values([]int{0, 1, 4, 5, 6, 999999}, 5)
	want(t, "values", fmt.Sprint(l, e), fmt.Sprint([][]int{{0}, {0, 5}, {0, 5}, {5}, {5, 10}, {999995, 1000000}}, api.OK))
	l, e = rounding.Values(nil, 20)
	want(t, "nothing", fmt.Sprint(l, e), "[] 0")
	for i, c := range []struct {
		table []int
		base  int
		e     api.Errno
	}{{make([]int, 12), 1, api.OK}, {append(make([]int, 12), -1), 0, api.ErrLength}, {[]int{-1}, 1, api.ErrRange}, {[]int{api.MaxValue + 1}, 1, api.ErrRange}, {nil, 0, api.ErrRange}, {nil, 21, api.ErrRange}} {
		l, e := rounding.Values(c.table, c.base)
		want(t, fmt.Sprint(i), e, c.e)
		want(t, fmt.Sprint(i), len(l) > 0, e == api.OK)
	}
}
