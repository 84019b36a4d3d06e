package suppress_test

import (
	"fmt"
	"math"
	"math/rand"
	"slices"
	"testing"

	"dataenclave/api"
	"dataenclave/cells"
	"dataenclave/differencing"
	"dataenclave/suppress"
)

func want(t *testing.T, name string, got, want any) {
	t.Helper()
	if fmt.Sprintf("%+v", got) != fmt.Sprintf("%+v", want) {
		t.Errorf("%s: got %+v, want %+v", name, got, want)
	}
}

func space(sizes ...int) api.Space { return api.Space{Sizes: sizes} }

func release(number int, values []int, groups ...[]int) api.Release {
	return api.Release{Number: number, View: api.View{Groups: groups}, Values: values}
}

// total and table are those of the chapter's example.
func total() []api.Release { return []api.Release{release(0, []int{10}, []int{0, 0, 0})} }

func table() api.Release { return release(1, []int{1, 5, 4}, []int{0, 1, 2}) }

// TestHide is about P33.1.
func TestHide(t *testing.T) {
	r := table()
	for _, c := range []struct {
		set, values []int
		e           api.Errno
	}{
		{nil, []int{1, 5, 4}, api.OK}, {[]int{0}, []int{-1, 5, 4}, api.OK}, {[]int{0, 2}, []int{-1, 5, -1}, api.OK}, {[]int{0, 1, 2}, []int{-1, -1, -1}, api.OK},
		{[]int{0, 0}, nil, api.ErrForm}, {[]int{2, 1}, nil, api.ErrForm}, {[]int{9, 8}, nil, api.ErrForm}, {[]int{0, 3}, nil, api.ErrRange}, {[]int{-1}, nil, api.ErrRange}, {[]int{math.MinInt, math.MaxInt}, nil, api.ErrRange},
	} {
		got, e := suppress.Hide(r, c.set)
		should := api.Release{}
		if c.e == api.OK {
			should = release(1, c.values, []int{0, 1, 2})
		}
		want(t, fmt.Sprint(c.set), fmt.Sprint(got, e), fmt.Sprint(should, c.e))
		want(t, "it stays", r, table())
	}
	got, e := suppress.Hide(api.Release{Number: -5, Values: []int{-7}}, []int{0})
	want(t, "any release", fmt.Sprint(got, e), fmt.Sprint(api.Release{Number: -5, Values: []int{-1}}, api.OK))
}

// TestProtects is about P33.2.
func TestProtects(t *testing.T) {
	s := space(3)
	for _, c := range []struct {
		set       []int
		protected []int
		margin    int
		is        bool
		e         api.Errno
	}{
		{nil, []int{0}, 1, false, api.OK}, {[]int{0}, []int{0}, 1, false, api.OK}, {[]int{0, 2}, []int{0}, 1, true, api.OK}, {[]int{0, 1}, []int{0}, 6, true, api.OK}, {[]int{0, 1}, []int{0}, 7, false, api.OK}, {nil, nil, 1, true, api.OK},
		{[]int{1, 0}, []int{9}, 0, false, api.ErrForm}, {[]int{3}, []int{9}, 0, false, api.ErrRange}, {[]int{0}, []int{0}, 0, false, api.ErrRange}, {[]int{0}, []int{1, 0}, 1, false, api.ErrForm},
	} {
		is, e := suppress.Protects(s, total(), table(), c.set, c.protected, c.margin)
		want(t, fmt.Sprint(c), fmt.Sprint(is, e), fmt.Sprint(c.is, c.e))
	}
	is, e := suppress.Protects(s, []api.Release{table()}, total()[0], nil, []int{0}, 1)
	want(t, "numbers that fall", fmt.Sprint(is, e), fmt.Sprint(false, api.ErrNumber))
	is, e = suppress.Protects(space(9), nil, table(), []int{0}, nil, 1)
	want(t, "no space", fmt.Sprint(is, e), fmt.Sprint(false, api.ErrSpace))
	earlier := slices.Grow(total(), 4)
	_, _ = suppress.Protects(s, earlier, table(), nil, nil, 1)
	want(t, "spare capacity", earlier[:2][1], api.Release{})
}

// least finds the least protecting set by trying all of them.
func least(s api.Space, earlier []api.Release, r api.Release, weights, protected []int, margin int) string {
	var best []int
	weight := -1
	for bits := range 1 << len(weights) {
		var set []int
		sum := 0
		for k := range weights {
			if bits>>k&1 == 1 {
				set, sum = append(set, k), sum+weights[k]
			}
		}
		is, e := suppress.Protects(s, earlier, r, set, protected, margin)
		if e != api.OK || !is {
			continue
		}
		if weight < 0 || sum < weight || sum == weight && (len(set) < len(best) || len(set) == len(best) && slices.Compare(set, best) < 0) {
			best, weight = set, sum
		}
	}
	if weight < 0 {
		return fmt.Sprint([]int{}, 0, api.ErrExposed)
	}
	return fmt.Sprint(best, weight, api.OK)
}

// TestLeast is about P33.3.
func TestLeast(t *testing.T) {
	set, weight, e := suppress.Least(space(3), total(), table(), []int{1, 5, 4}, []int{0}, 1)
	want(t, "the chapter's example", fmt.Sprint(set, weight, e), "[0 2] 5 0")
	set, weight, e = suppress.Least(space(3), nil, table(), []int{1, 5, 4}, []int{0}, 1)
	want(t, "without a total", fmt.Sprint(set, weight, e), "[0] 1 0")
	set, weight, e = suppress.Least(space(3), total(), table(), []int{1, 5, 4}, nil, 1)
	want(t, "nothing is protected", fmt.Sprint(set, weight, e), "[] 0 0")
	r := rand.New(rand.NewSource(1))
	shown, none := 0, 0
	for range 60 {
		s := []api.Space{space(4), space(2, 3), space(2, 2, 2)}[r.Intn(3)]
		var counts []int
		for range cells.Count(s) {
			counts = append(counts, r.Intn(4))
		}
		fine, whole := api.View{}, api.View{}
		for _, size := range s.Sizes {
			groups := make([]int, size)
			whole.Groups = append(whole.Groups, make([]int, size))
			for i := range groups {
				groups[i] = i
			}
			fine.Groups = append(fine.Groups, groups)
		}
		margins, _ := cells.Margins(s, fine)
		var earlier []api.Release
		for n, v := range append(margins, whole) {
			if r.Intn(2) == 0 {
				values, _ := cells.Publish(s, v, counts)
				earlier = append(earlier, api.Release{Number: n, View: v, Values: values})
			}
		}
		values, _ := cells.Publish(s, fine, counts)
		weights, protected := []int{}, []int{}
		for k := range values {
			weights = append(weights, r.Intn(4))
			if values[k] > 0 && values[k] < 3 && r.Intn(2) == 0 {
				protected = append(protected, k)
			}
			if r.Intn(9) == 0 {
				values[k] = api.Hidden
			}
		}
		table := api.Release{Number: 20, View: fine, Values: values}
		margin := 1 + r.Intn(2)
		should := least(s, earlier, table, weights, protected, margin)
		set, weight, e := suppress.Least(s, earlier, table, weights, protected, margin)
		want(t, fmt.Sprint(s, earlier, table, weights, protected, margin), fmt.Sprint(set, weight, e), should)
		if e == api.ErrExposed {
			none++
		}
		shown += len(set)
	}
	want(t, "some are hidden, and some cannot be", shown > 20 && none > 0, true)
}

// TestLeastErrors is about P33.3.
func TestLeastErrors(t *testing.T) {
	s := space(8, 2)
	ten := release(0, []int{1, 1, 1, 1, 1, 1, 1, 1, 1, 1}, []int{0, 1, 2, 3, 4, 4, 4, 4}, []int{0, 1})
	eleven := ten
	eleven.Values = append(slices.Clone(ten.Values), 1)
	ones := func(n int) []int { return slices.Repeat([]int{1}, n) }
	for _, c := range []struct {
		name      string
		r         api.Release
		weights   []int
		protected []int
		margin    int
		e         api.Errno
	}{
		{"ten values", ten, ones(10), []int{0}, 1, api.OK},
		{"eleven values", eleven, nil, []int{99}, 0, api.ErrLimit},
		{"too few weights", ten, append(ones(8), -1), []int{99}, 0, api.ErrLength},
		{"too many weights", ten, ones(11), []int{99}, 0, api.ErrLength},
		{"a weight below 0", ten, append(ones(9), -1), []int{1, 0}, 1, api.ErrRange},
		{"too great a weight", ten, append(ones(9), 1001), []int{1, 0}, 1, api.ErrRange},
		{"the greatest weight", ten, append(ones(9), 1000), nil, 1, api.OK},
		{"a protected cell that is none", ten, ones(10), []int{99}, 1, api.ErrRange},
		{"protected cells that fall", ten, ones(10), []int{1, 0}, 1, api.ErrForm},
	} {
		set, weight, e := suppress.Least(s, nil, c.r, c.weights, c.protected, c.margin)
		want(t, c.name, e, c.e)
		if e != api.OK {
			want(t, c.name, fmt.Sprint(set, weight), "[] 0")
		}
	}
	conflict := release(1, []int{1, 5, 5}, []int{0, 1, 2})
	_, _, e := suppress.Least(space(3), total(), conflict, []int{0, 0, 0}, []int{0}, 1)
	want(t, "a conflict, although hiding would help", e, api.ErrConflict)
	told := []api.Release{release(0, []int{1, 9}, []int{0, 1, 1})}
	_, _, e = suppress.Least(space(3), told, table(), []int{0, 0, 0}, []int{0}, 1)
	want(t, "exposed already", e, api.ErrExposed)
	large := release(1, []int{60000, 60000}, []int{0, 1})
	set, weight, e := suppress.Least(space(2), []api.Release{release(0, []int{60000}, []int{-1, 0})}, release(1, []int{0, 60000}, []int{0, 1}), []int{0, 0}, []int{0}, 1)
	want(t, "it is told directly", fmt.Sprint(set, weight, e), "[0] 0 0")
	_, _, e = suppress.Least(space(2), nil, large, []int{0, 0}, nil, 1)
	want(t, "too large to be searched", e, api.ErrLimit)
}

// TestNothingLess is about P33.3: with a greater margin, or more protected cells, the least weight is not less.
func TestNothingLess(t *testing.T) {
	s, weights := space(3), []int{1, 5, 4}
	before := 0
	for margin := 1; margin < 9; margin++ {
		_, weight, e := suppress.Least(s, total(), table(), weights, []int{0}, margin)
		_, more, also := suppress.Least(s, total(), table(), weights, []int{0, 2}, margin)
		if e != api.OK || also != api.OK {
			continue
		}
		want(t, fmt.Sprint("margin ", margin), weight >= before && more >= weight, true)
		before = weight
	}
	safe, _ := differencing.Safe(s, total(), []int{0}, 1)
	want(t, "there was something to be hidden", safe && before > 0, true)
}
