package cells_test

import (
	"fmt"
	"math"
	"math/rand"
	"slices"
	"testing"

	"dataenclave/api"
	"dataenclave/cells"
)

func want(t *testing.T, name string, got, want any) {
	t.Helper()
	if fmt.Sprint(got) != fmt.Sprint(want) {
		t.Errorf("%s: got %v, want %v", name, got, want)
	}
}

func space(sizes ...int) api.Space { return api.Space{Sizes: sizes} }

func view(groups ...[]int) api.View { return api.View{Groups: groups} }

// wrong are spaces that are not valid.
func wrong() []api.Space {
	return []api.Space{space(), space(0), space(-1), space(9), space(2, 9), space(1, 1, 1, 1, 1), space(7, 7), space(8, 8, 8, 8), space(2, 0), space(-2, -2), space(math.MaxInt, 2), space(5, 5, 2)}
}

// TestCheck is about P28.1.
func TestCheck(t *testing.T) {
	for sizes, n := range map[[4]int]int{{1}: 1, {8}: 8, {2, 3}: 6, {1, 1, 1, 1}: 1, {8, 6}: 48, {2, 3, 4, 2}: 48, {4, 3, 4}: 48} {
		s := api.Space{}
		for _, size := range sizes {
			if size > 0 {
				s.Sizes = append(s.Sizes, size)
			}
		}
		want(t, fmt.Sprint(s), fmt.Sprint(cells.Check(s), cells.Count(s)), fmt.Sprint(api.OK, n))
	}
	for _, s := range wrong() {
		want(t, fmt.Sprint(s), fmt.Sprint(cells.Check(s), cells.Count(s)), fmt.Sprint(api.ErrSpace, 0))
		v := api.View{}
		for _, size := range s.Sizes {
			v.Groups = append(v.Groups, make([]int, min(max(size, 0), 9)))
		}
		want(t, "view", cells.View(s, v), api.ErrSpace)
		want(t, "published", cells.Published(s, v), 0)
		_, e := cells.Index(s, nil)
		want(t, "index", e, api.ErrSpace)
		_, e = cells.At(s, -1)
		want(t, "at", e, api.ErrSpace)
		_, e = cells.Members(s, v, -1)
		want(t, "members", e, api.ErrSpace)
		_, e = cells.Publish(s, v, nil)
		want(t, "publish", e, api.ErrSpace)
		_, e = cells.Margins(s, v)
		want(t, "margins", e, api.ErrSpace)
		want(t, "finer", cells.Finer(s, v, v), false)
	}
}

// TestView is about P28.1.
func TestView(t *testing.T) {
	s := space(2, 3)
	for _, c := range []struct {
		v api.View
		n int
	}{
		{view([]int{0, 1}, []int{0, 0, 1}), 4}, {view([]int{0, 0}, []int{0, 0, 0}), 1}, {view([]int{0, 1}, []int{0, 1, 2}), 6}, {view([]int{-1, 0}, []int{0, -1, 1}), 2}, {view([]int{0, 1}, []int{-1, -1, 0}), 2}, {view([]int{0, 1}, []int{0, 1, 0}), 4},
	} {
		want(t, fmt.Sprint(c.v), fmt.Sprint(cells.View(s, c.v), cells.Published(s, c.v)), fmt.Sprint(api.OK, c.n))
	}
	for _, v := range []api.View{
		view(), view([]int{0, 1}), view([]int{0, 1}, []int{0, 0, 0}, []int{0}), view([]int{0}, []int{0, 0, 0}), view([]int{0, 1, 2}, []int{0, 0, 0}), view(nil, []int{0, 0, 0}),
		view([]int{1, 0}, []int{0, 0, 0}), view([]int{0, 2}, []int{0, 0, 0}), view([]int{0, 1}, []int{0, 2, 1}), view([]int{-1, -1}, []int{0, 0, 0}), view([]int{0, 1}, []int{-1, -1, -1}), view([]int{0, -2}, []int{0, 0, 0}), view([]int{-1, 1}, []int{0, 0, 0}), view([]int{0, math.MaxInt}, []int{0, 0, 0}), view([]int{math.MinInt, 0}, []int{0, 0, 0}),
	} {
		want(t, fmt.Sprint(v), fmt.Sprint(cells.View(s, v), cells.Published(s, v)), fmt.Sprint(api.ErrSpace, 0))
		_, e := cells.Members(s, v, -1)
		want(t, "members", e, api.ErrSpace)
		_, e = cells.Publish(s, v, nil)
		want(t, "publish", e, api.ErrSpace)
		_, e = cells.Margins(s, v)
		want(t, "margins", e, api.ErrSpace)
		good := view([]int{0, 0}, []int{0, 0, 0})
		want(t, "finer", cells.Finer(s, v, good) || cells.Finer(s, good, v), false)
	}
}

// TestIndexAndAt is about P28.2.
func TestIndexAndAt(t *testing.T) {
	s := space(2, 3, 4)
	n := 0
	for a := range 2 {
		for b := range 3 {
			for c := range 4 {
				at, e := cells.At(s, n)
				want(t, "at", fmt.Sprint(at, e), fmt.Sprint([]int{a, b, c}, api.OK))
				cell, e := cells.Index(s, []int{a, b, c})
				want(t, "index", fmt.Sprint(cell, e), fmt.Sprint(n, api.OK))
				n++
			}
		}
	}
	for _, cell := range []int{-1, 24, math.MinInt, math.MaxInt} {
		at, e := cells.At(s, cell)
		want(t, fmt.Sprint("no cell ", cell), fmt.Sprint(at, e), fmt.Sprint([]int{}, api.ErrRange))
	}
	for _, c := range []struct {
		at []int
		e  api.Errno
	}{{nil, api.ErrLength}, {[]int{0, 0}, api.ErrLength}, {[]int{0, 0, 9, 0}, api.ErrLength}, {[]int{2, 0, 0}, api.ErrRange}, {[]int{0, 3, 0}, api.ErrRange}, {[]int{0, 0, 4}, api.ErrRange}, {[]int{0, 0, -1}, api.ErrRange}, {[]int{-1, 0, 0}, api.ErrRange}, {[]int{math.MaxInt, 0, 0}, api.ErrRange}} {
		cell, e := cells.Index(s, c.at)
		want(t, fmt.Sprint(c.at), fmt.Sprint(cell, e), fmt.Sprint(0, c.e))
	}
}

// members finds the members of a published cell by its groups.
func members(s api.Space, v api.View, k int) []int {
	var l []int
	var last, all []int
	for _, groups := range v.Groups {
		all = append(all, slices.Max(groups)+1)
	}
	last = make([]int, len(all))
	for i := len(all) - 1; i >= 0; i-- {
		last[i] = k % all[i]
		k /= all[i]
	}
	for cell := range cells.Count(s) {
		at, _ := cells.At(s, cell)
		in := true
		for i, category := range at {
			in = in && v.Groups[i][category] == last[i]
		}
		if in {
			l = append(l, cell)
		}
	}
	return l
}

// random makes a valid view.
func random(r *rand.Rand, s api.Space) api.View {
	for {
		var v api.View
		for _, size := range s.Sizes {
			groups, next := make([]int, size), 0
			for i := range groups {
				groups[i] = r.Intn(next+2) - 1
				if r.Intn(3) > 0 && groups[i] < 0 {
					groups[i] = r.Intn(next + 1)
				}
				if groups[i] == next {
					next++
				}
			}
			v.Groups = append(v.Groups, groups)
		}
		if cells.View(s, v) == api.OK {
			return v
		}
	}
}

func spaces() []api.Space {
	return []api.Space{space(5), space(2, 3), space(3, 1, 4), space(2, 2, 2, 3)}
}

// TestMembersAndPublish is about P28.3.
func TestMembersAndPublish(t *testing.T) {
	l, e := cells.Members(space(2, 3), view([]int{0, 1}, []int{0, 0, 1}), 0)
	want(t, "the chapter's members", fmt.Sprint(l, e), "[0 1] 0")
	l, e = cells.Publish(space(2, 3), view([]int{0, 1}, []int{0, 0, 1}), []int{1, 2, 3, 4, 5, 6})
	want(t, "the chapter's table", fmt.Sprint(l, e), "[3 3 9 6] 0")
	r := rand.New(rand.NewSource(4))
	for range 100 {
		for _, s := range spaces() {
			v := random(r, s)
			var table, sums, seen []int
			for range cells.Count(s) {
				table = append(table, r.Intn(3)*r.Intn(500001))
			}
			for k := range cells.Published(s, v) {
				l, e := cells.Members(s, v, k)
				want(t, fmt.Sprint(s, v, k), fmt.Sprint(l, e), fmt.Sprint(members(s, v, k), api.OK))
				sum := 0
				for _, cell := range l {
					sum += table[cell]
				}
				sums, seen = append(sums, sum), append(seen, l...)
			}
			got, e := cells.Publish(s, v, table)
			want(t, fmt.Sprint(s, v), fmt.Sprint(got, e), fmt.Sprint(sums, api.OK))
			slices.Sort(seen)
			want(t, "each once", len(slices.Compact(slices.Clone(seen))), len(seen))
		}
	}
	s, v := space(2, 2), view([]int{0, 1}, []int{0, 0})
	for _, k := range []int{-1, 2, math.MinInt, math.MaxInt} {
		l, e := cells.Members(s, v, k)
		want(t, fmt.Sprint("no published cell ", k), fmt.Sprint(l, e), fmt.Sprint([]int{}, api.ErrRange))
	}
	for _, c := range []struct {
		table []int
		e     api.Errno
	}{{nil, api.ErrLength}, {[]int{1, 2, 3}, api.ErrLength}, {[]int{1, 2, 3, 4, -1}, api.ErrLength}, {[]int{1, 2, 3, -1}, api.ErrRange}, {[]int{api.MaxValue + 1, 0, 0, 0}, api.ErrRange}, {[]int{api.MaxValue, api.MaxValue, 0, 0}, api.OK}} {
		l, e := cells.Publish(s, v, c.table)
		want(t, fmt.Sprint(c.table), e, c.e)
		if e == api.OK {
			want(t, "great sums", l, []int{2 * api.MaxValue, 0})
		} else {
			want(t, "nothing", l, []int{})
		}
	}
	one, e := cells.Publish(s, view([]int{0, -1}, []int{0, 0}), []int{1, 2, 3, -1})
	want(t, "what is left out has to be right, too", fmt.Sprint(one, e), fmt.Sprint([]int{}, api.ErrRange))
}

// finer finds what Finer has to report, dimension by dimension and pair by pair.
func finer(a, b api.View) bool {
	for i := range a.Groups {
		for x, g := range a.Groups[i] {
			for y, h := range a.Groups[i] {
				if g == h && b.Groups[i][x] != b.Groups[i][y] {
					return false
				}
			}
			if g == -1 && b.Groups[i][x] != -1 {
				return false
			}
		}
	}
	return true
}

// TestFiner is about P28.4.
func TestFiner(t *testing.T) {
	r := rand.New(rand.NewSource(5))
	yes := 0
	for range 400 {
		for _, s := range spaces() {
			a, b := random(r, s), random(r, s)
			is := cells.Finer(s, a, b)
			want(t, fmt.Sprint(a, b), is, finer(a, b))
			want(t, "itself", cells.Finer(s, a, a), true)
			if is {
				yes++
			}
		}
	}
	want(t, "some are", yes > 50, true)
	s := space(3)
	for _, c := range []struct {
		a, b []int
		is   bool
	}{
		{[]int{0, 1, 2}, []int{0, 0, 1}, true}, {[]int{0, 0, 1}, []int{0, 1, 2}, false}, {[]int{0, 1, 2}, []int{0, -1, -1}, true}, {[]int{0, -1, 1}, []int{0, 0, 1}, false}, {[]int{0, -1, 1}, []int{0, -1, 0}, true}, {[]int{0, 0, 1}, []int{0, -1, 1}, false}, {[]int{0, 0, 1}, []int{-1, -1, 0}, true}, {[]int{-1, 0, 0}, []int{0, 1, 1}, false},
	} {
		want(t, fmt.Sprint(c.a, c.b), cells.Finer(s, view(c.a), view(c.b)), c.is)
	}
}

// TestMargins is about P28.4.
func TestMargins(t *testing.T) {
	l, e := cells.Margins(space(2, 3), view([]int{0, 1}, []int{0, 0, 1}))
	want(t, "of two dimensions", fmt.Sprint(l, e), fmt.Sprint([]api.View{view([]int{0, 0}, []int{0, 0, 1}), view([]int{0, 1}, []int{0, 0, 0}), view([]int{0, 0}, []int{0, 0, 0})}, api.OK))
	l, e = cells.Margins(space(2, 3), view([]int{0, 0}, []int{0, -1, 1}))
	want(t, "a dimension that is one already", fmt.Sprint(l, e), fmt.Sprint([]api.View{view([]int{0, 0}, []int{0, -1, 0})}, api.OK))
	l, e = cells.Margins(space(2, 3), view([]int{-1, 0}, []int{-1, -1, 0}))
	want(t, "none", fmt.Sprint(l, e), "[] 0")
	l, e = cells.Margins(space(2, 2, 2), view([]int{0, 1}, []int{0, 0}, []int{0, 1}))
	want(t, "in their order", fmt.Sprint(l, e), fmt.Sprint([]api.View{view([]int{0, 0}, []int{0, 0}, []int{0, 1}), view([]int{0, 1}, []int{0, 0}, []int{0, 0}), view([]int{0, 0}, []int{0, 0}, []int{0, 0})}, api.OK))
	r := rand.New(rand.NewSource(6))
	for range 50 {
		for _, s := range spaces() {
			v := random(r, s)
			before := fmt.Sprint(v)
			l, _ := cells.Margins(s, v)
			for i, m := range l {
				want(t, "finer than its margin", cells.Finer(s, v, m), true)
				want(t, "not v", fmt.Sprint(m) != fmt.Sprint(v), true)
				for _, other := range l[:i] {
					want(t, "each once", fmt.Sprint(m) != fmt.Sprint(other), true)
				}
			}
			want(t, "it stays", v, before)
		}
	}
}
