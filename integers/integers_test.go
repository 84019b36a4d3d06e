package integers_test

import (
	"fmt"
	"math"
	"math/rand"
	"slices"
	"testing"

	"dataenclave/api"
	"dataenclave/bounds"
	"dataenclave/equations"
	"dataenclave/fraction"
	"dataenclave/integers"
)

func want(t *testing.T, name string, got, want any) {
	t.Helper()
	if fmt.Sprint(got) != fmt.Sprint(want) {
		t.Errorf("%s: got %v, want %v", name, got, want)
	}
}

func eq(value int, cells ...int) api.Equation { return api.Equation{Cells: cells, Value: value} }

// solutions finds all solutions by trying all tables, ascending.
func solutions(cells int, l []api.Equation) [][]int {
	greatest := 0
	for _, x := range l {
		greatest = max(greatest, x.Value)
	}
	table := make([]int, cells)
	var all [][]int
	var try func(cell int)
	try = func(cell int) {
		if cell == cells {
			if equations.Agrees(l, table) {
				all = append(all, slices.Clone(table))
			}
			return
		}
		most := 0
		if slices.Contains(equations.Touched(cells, l), cell) {
			most = greatest
		}
		for table[cell] = 0; table[cell] < most; table[cell]++ {
			try(cell + 1)
		}
		try(cell + 1)
	}
	try(0)
	return all
}

func random(r *rand.Rand, cells, n int) []api.Equation {
	point := make([]int, cells)
	for i := range point {
		point[i] = r.Intn(3)
	}
	var l []api.Equation
	for range n {
		var x api.Equation
		for i := range cells {
			if r.Intn(2) == 0 {
				x.Cells = append(x.Cells, i)
				x.Value += point[i]
			}
		}
		if r.Intn(12) == 0 {
			x.Value += r.Intn(3)
		}
		if len(x.Cells) > 0 {
			l = append(l, x)
		}
	}
	return l
}

// TestByTrying is about P31.1 and P31.2, by trying all tables.
func TestByTrying(t *testing.T) {
	r := rand.New(rand.NewSource(1))
	none := 0
	for range 500 {
		cells := 1 + r.Intn(4)
		l := random(r, cells, r.Intn(6))
		all := solutions(cells, l)
		name := fmt.Sprint(cells, l)
		first, found, e := integers.First(cells, l)
		if len(all) == 0 {
			none++
			want(t, "first "+name, fmt.Sprint(first, found, e), fmt.Sprint([]int{}, false, api.OK))
			got, e := integers.Solutions(cells, l, 5)
			want(t, "solutions "+name, fmt.Sprint(got, e), fmt.Sprint([][]int{}, api.OK))
			reaches, e := integers.Reaches(cells, l)
			want(t, "reaches "+name, fmt.Sprint(reaches, e), fmt.Sprint([]api.Reach{}, api.ErrConflict))
			a, b, e := integers.Pair(cells, l, cells-1)
			want(t, "pair "+name, fmt.Sprint(a, b, e), fmt.Sprint([]int{}, []int{}, api.ErrConflict))
			continue
		}
		want(t, "first "+name, fmt.Sprint(first, found, e), fmt.Sprint(all[0], true, api.OK))
		for _, most := range []int{1, 2, len(all), len(all) + 1, 1000} {
			got, e := integers.Solutions(cells, l, most)
			want(t, "solutions "+name, fmt.Sprint(got, e), fmt.Sprint(all[:min(most, len(all))], api.OK))
		}
		checkReaches(t, cells, l, all)
	}
	want(t, "some have none", none > 20, true)
}

func checkReaches(t *testing.T, cells int, l []api.Equation, all [][]int) {
	t.Helper()
	got, e := integers.Reaches(cells, l)
	want(t, "error", fmt.Sprint(len(got), e), fmt.Sprint(cells, api.OK))
	touched := equations.Touched(cells, l)
	intervals, e := bounds.Bounds(cells, l)
	want(t, "bounds", e, api.OK)
	for cell, reach := range got {
		name := fmt.Sprint(cells, l, cell)
		a, b, e := integers.Pair(cells, l, cell)
		if !slices.Contains(touched, cell) {
			want(t, "open "+name, reach, api.Reach{Open: true})
			want(t, "no pair "+name, fmt.Sprint(a, b, e), fmt.Sprint([]int{}, []int{}, api.ErrNone))
			continue
		}
		least, greatest := all[0], all[0]
		for _, table := range all {
			if table[cell] < least[cell] {
				least = table
			}
			if table[cell] > greatest[cell] {
				greatest = table
			}
		}
		want(t, "reach "+name, reach, api.Reach{Low: least[cell], High: greatest[cell]})
		want(t, "pair "+name, fmt.Sprint(a, b, e), fmt.Sprint(least, greatest, api.OK))
		x := intervals[cell]
		want(t, "within the bounds "+name, fraction.Less(api.Frac{Num: reach.Low, Den: 1}, x.Low) || fraction.Less(x.High, api.Frac{Num: reach.High, Den: 1}), false)
	}
}

// TestNamed is about P31.1 and P31.2: the example of the chapter, and others.
func TestNamed(t *testing.T) {
	l := []api.Equation{eq(3, 0, 1), eq(1, 1, 2)}
	all, e := integers.Solutions(3, l, 9)
	want(t, "solutions", fmt.Sprint(all, e), "[[2 1 0] [3 0 1]] 0")
	reaches, e := integers.Reaches(3, l)
	want(t, "reaches", fmt.Sprint(reaches, e), fmt.Sprint([]api.Reach{{Low: 2, High: 3}, {Low: 0, High: 1}, {Low: 0, High: 1}}, api.OK))
	half := []api.Equation{eq(1, 0, 1), eq(1, 1, 2), eq(1, 0, 2)}
	_, found, e := integers.First(3, half)
	want(t, "fractions alone", fmt.Sprint(found, e), "false 0")
	first, found, e := integers.First(3, nil)
	want(t, "without equations", fmt.Sprint(first, found, e), "[0 0 0] true 0")
	first, found, e = integers.First(48, []api.Equation{eq(5, 40, 47)})
	want(t, "many cells", fmt.Sprint(first[40], first[47], len(first), found, e), "0 5 48 true 0")
	_, found, e = integers.First(3, []api.Equation{eq(0, 0, 1), eq(2, 0, 1), eq(1, 2)})
	want(t, "the same cells and other values", fmt.Sprint(found, e), "false 0")
	_, found, e = integers.First(3, []api.Equation{eq(0, 0, 1), eq(2, 1)})
	want(t, "cells that must be 0", fmt.Sprint(found, e), "false 0")
	reaches, e = integers.Reaches(1, []api.Equation{eq(65535, 0)})
	want(t, "a great value", fmt.Sprint(reaches, e), fmt.Sprint([]api.Reach{{Low: 65535, High: 65535}}, api.OK))
	reaches, e = integers.Reaches(2, []api.Equation{eq(api.MaxValue, 0, 1), eq(3, 0), eq(5, 1)})
	want(t, "a great value of small cells", fmt.Sprint(reaches, e), fmt.Sprint([]api.Reach{}, api.ErrConflict))
}

// TestErrors is about P31.1 and P31.2: errors, of which the first one counts.
func TestErrors(t *testing.T) {
	var ones []api.Equation // 16 cells with two values each, and a 17th one
	for i := range 16 {
		ones = append(ones, eq(1, i, 20))
	}
	small, large := append(slices.Clone(ones), eq(0, 20)), append(slices.Clone(ones), eq(1, 17), eq(0, 20))
	for i, c := range []struct {
		cells int
		l     []api.Equation
		e     api.Errno
	}{
		{0, nil, api.ErrSpace}, {49, nil, api.ErrSpace}, {-1, nil, api.ErrSpace}, {math.MaxInt, nil, api.ErrSpace}, {20, large, api.ErrSpace},
		{21, large, api.ErrLimit}, {21, small, api.OK}, {1, []api.Equation{eq(65536, 0)}, api.ErrLimit}, {2, []api.Equation{eq(255, 0, 1)}, api.OK}, {2, []api.Equation{eq(256, 0, 1)}, api.ErrLimit}, {48, []api.Equation{eq(65535, 0), eq(0, 1, 2, 3)}, api.OK},
		{48, []api.Equation{eq(api.MaxValue, 0), eq(api.MaxValue, 1), eq(api.MaxValue, 2), eq(api.MaxValue, 3)}, api.ErrLimit},
	} {
		_, _, e := integers.First(c.cells, c.l)
		want(t, fmt.Sprint("first ", i), e, c.e)
		_, e = integers.Reaches(c.cells, c.l)
		want(t, fmt.Sprint("reaches ", i), e, c.e)
		_, e = integers.Solutions(c.cells, c.l, 1)
		want(t, fmt.Sprint("solutions ", i), e, c.e)
		_, _, e = integers.Pair(c.cells, c.l, 0)
		want(t, fmt.Sprint("pair ", i), e, c.e)
		if c.e != api.OK {
			_, e = integers.Solutions(c.cells, c.l, 0)
			want(t, fmt.Sprint("solutions ", i), e, c.e)
			_, _, e = integers.Pair(c.cells, c.l, -1)
			want(t, fmt.Sprint("pair ", i), e, c.e)
		}
	}
	conflict := []api.Equation{eq(1, 0), eq(2, 0)}
	for most, should := range map[int]api.Errno{-1: api.ErrRange, 0: api.ErrRange, 1: api.OK, 1000: api.OK, 1001: api.ErrRange, math.MinInt: api.ErrRange} {
		_, e := integers.Solutions(2, conflict, most)
		want(t, fmt.Sprint("most ", most), e, should)
	}
	for _, c := range []struct {
		l    []api.Equation
		cell int
		e    api.Errno
	}{{conflict, -1, api.ErrRange}, {conflict, 2, api.ErrRange}, {conflict, 1, api.ErrConflict}, {conflict[:1], 1, api.ErrNone}, {conflict[:1], 0, api.OK}, {conflict, math.MaxInt, api.ErrRange}} {
		_, _, e := integers.Pair(2, c.l, c.cell)
		want(t, fmt.Sprint("cell ", c.cell), e, c.e)
	}
}

// TestMore is about P31.2: more equations never make a reach wider.
func TestMore(t *testing.T) {
	r := rand.New(rand.NewSource(3))
	for range 200 {
		l := random(r, 5, 4)
		for n := range l {
			a, e := integers.Reaches(5, l[:n])
			b, also := integers.Reaches(5, l[:n+1])
			if e != api.OK || also != api.OK {
				continue
			}
			for cell := range a {
				want(t, fmt.Sprint(l, n), a[cell].Open || !b[cell].Open && a[cell].Low <= b[cell].Low && b[cell].High <= a[cell].High, true)
			}
		}
	}
}
