package differencing_test

import (
	"fmt"
	"math"
	"math/rand"
	"slices"
	"testing"

	"dataenclave/api"
	"dataenclave/cells"
	"dataenclave/differencing"
	"dataenclave/equations"
	"dataenclave/integers"
)

func want(t *testing.T, name string, got, want any) {
	t.Helper()
	if fmt.Sprintf("%+v", got) != fmt.Sprintf("%+v", want) {
		t.Errorf("%s: got %+v, want %+v", name, got, want)
	}
}

func space(sizes ...int) api.Space { return api.Space{Sizes: sizes} }

func release(number int, values []int, groups ...[]int) api.Release {
	return api.Release{Number: number, View: api.View{Groups: groups}, Values: values}
}

const hidden = api.Hidden

// two are the releases of the chapter's example.
func two() []api.Release {
	return []api.Release{release(3, []int{5, 2}, []int{0, 0, 1}), release(7, []int{4, 3}, []int{0, 1, 1})}
}

// random makes a table and releases of it, some values of which are hidden.
func random(r *rand.Rand, s api.Space) ([]int, []api.Release) {
	var table []int
	for range cells.Count(s) {
		table = append(table, r.Intn(4))
	}
	var l []api.Release
	for n := range 1 + r.Intn(4) {
		var v api.View
		for _, size := range s.Sizes {
			groups, next := make([]int, size), 0
			for i := range groups {
				groups[i] = min(r.Intn(next+1), next)
				if r.Intn(2) == 0 {
					groups[i] = next
				}
				if groups[i] == next {
					next++
				}
			}
			v.Groups = append(v.Groups, groups)
		}
		values, e := cells.Publish(s, v, table)
		for i := range values {
			if r.Intn(4) == 0 {
				values[i] = hidden
			}
		}
		if e == api.OK {
			l = append(l, api.Release{Number: 2 * n, View: v, Values: values})
		}
	}
	return table, l
}

// exposed reports whether a cell is exposed by releases, by the definition.
func exposed(s api.Space, l []api.Release, cell, margin int) bool {
	all, _ := equations.All(s, l)
	reaches, e := integers.Reaches(cells.Count(s), all)
	return e == api.OK && !reaches[cell].Open && reaches[cell].High-reaches[cell].Low < margin
}

// TestExposed is about P32.1.
func TestExposed(t *testing.T) {
	got, e := differencing.Exposed(space(3), two(), []int{0, 1, 2}, 1)
	want(t, "the chapter's example", fmt.Sprint(got, e), fmt.Sprint([]api.Exposed{{Cell: 0, Reach: api.Reach{Low: 4, High: 4}, First: 7}, {Cell: 1, Reach: api.Reach{Low: 1, High: 1}, First: 7}, {Cell: 2, Reach: api.Reach{Low: 2, High: 2}, First: 3}}, api.OK))
	got, e = differencing.Exposed(space(3), two()[:1], []int{0, 1, 2}, 6)
	want(t, "a margin", fmt.Sprint(got, e), fmt.Sprint([]api.Exposed{{Cell: 0, Reach: api.Reach{Low: 0, High: 5}, First: 3}, {Cell: 1, Reach: api.Reach{Low: 0, High: 5}, First: 3}, {Cell: 2, Reach: api.Reach{Low: 2, High: 2}, First: 3}}, api.OK))
	got, e = differencing.Exposed(space(3), two()[:1], []int{1}, 5)
	want(t, "just the margin apart", fmt.Sprint(got, e), "[] 0")
	got, e = differencing.Exposed(space(3), nil, []int{0, 1, 2}, 100)
	want(t, "nothing is told", fmt.Sprint(got, e), "[] 0")
	r := rand.New(rand.NewSource(1))
	some := 0
	for range 300 {
		s := []api.Space{space(4), space(2, 3), space(2, 2, 2)}[r.Intn(3)]
		_, l := random(r, s)
		all, _ := equations.All(s, l)
		reaches, e := integers.Reaches(cells.Count(s), all)
		if e != api.OK {
			continue
		}
		var protected []int
		for cell := range cells.Count(s) {
			if r.Intn(2) == 0 {
				protected = append(protected, cell)
			}
		}
		margin := 1 + r.Intn(4)
		var should []api.Exposed
		for _, cell := range protected {
			if !exposed(s, l, cell, margin) {
				continue
			}
			n := 0
			for !exposed(s, l[:n+1], cell, margin) {
				n++
			}
			should = append(should, api.Exposed{Cell: cell, Reach: reaches[cell], First: l[n].Number})
		}
		some += len(should)
		got, e := differencing.Exposed(s, l, protected, margin)
		want(t, fmt.Sprint(s, l, protected, margin), fmt.Sprint(got, e), fmt.Sprint(should, api.OK))
		safe, e := differencing.Safe(s, l, protected, margin)
		want(t, "safe", fmt.Sprint(safe, e), fmt.Sprint(len(should) == 0, api.OK))
	}
	want(t, "some are", some > 100, true)
}

// TestErrors is about P32.1 to P32.3: errors, of which the first one counts.
func TestErrors(t *testing.T) {
	wrong := two()
	wrong[1].Number = 3
	conflict := append(two(), release(9, []int{9}, []int{0, 0, 0}))
	large := []api.Release{release(0, []int{65536, 1, 1}, []int{0, 1, 2})}
	for i, c := range []struct {
		l         []api.Release
		protected []int
		margin    int
		e         api.Errno
	}{
		{wrong, []int{9}, 0, api.ErrNumber},
		{conflict, []int{1, 0}, 0, api.ErrRange}, {conflict, []int{1, 0}, 101, api.ErrRange}, {conflict, []int{1, 0}, -1, api.ErrRange}, {conflict, []int{1, 0, 3}, 1, api.ErrRange}, {conflict, []int{1, 0, -1}, 1, api.ErrRange}, {conflict, []int{math.MaxInt, 0}, 1, api.ErrRange},
		{conflict, []int{1, 0}, 1, api.ErrForm}, {conflict, []int{1, 1}, 100, api.ErrForm}, {large, []int{2, 2}, 1, api.ErrForm},
		{large, []int{0, 2}, 1, api.ErrLimit}, {conflict, nil, 1, api.ErrConflict}, {two(), nil, 1, api.OK}, {two(), nil, 100, api.OK},
	} {
		l, e := differencing.Exposed(space(3), c.l, c.protected, c.margin)
		want(t, fmt.Sprint("exposed ", i), fmt.Sprint(l, e), fmt.Sprint([]api.Exposed{}, c.e))
		safe, e := differencing.Safe(space(3), c.l, c.protected, c.margin)
		want(t, fmt.Sprint("safe ", i), fmt.Sprint(safe, e), fmt.Sprint(c.e == api.OK, c.e))
	}
	_, e := differencing.Safe(space(0), nil, []int{9}, 0)
	want(t, "no space", e, api.ErrSpace)
	for i, c := range []struct {
		l            []api.Release
		cell, margin int
		causes, pair api.Errno
	}{
		{wrong, 9, 0, api.ErrNumber, api.ErrNumber}, {conflict, 3, 1, api.ErrRange, api.ErrRange}, {conflict, -1, 1, api.ErrRange, api.ErrRange}, {conflict, 0, 0, api.ErrRange, api.ErrConflict}, {conflict, 0, 101, api.ErrRange, api.ErrConflict}, {conflict, 0, 1, api.ErrConflict, api.ErrConflict}, {large, 0, 1, api.ErrLimit, api.ErrLimit},
		{two()[:1], 0, 1, api.ErrNone, api.OK}, {nil, 0, 1, api.ErrNone, api.ErrNone}, {two(), 0, 1, api.OK, api.OK},
	} {
		numbers, e := differencing.Causes(space(3), c.l, c.cell, c.margin)
		want(t, fmt.Sprint("causes ", i), e, c.causes)
		a, b, also := differencing.Witness(space(3), c.l, c.cell)
		want(t, fmt.Sprint("witness ", i), also, c.pair)
		want(t, "nothing", fmt.Sprint(len(numbers) > 0, len(a) > 0, len(b) > 0), fmt.Sprint(e == api.OK, also == api.OK, also == api.OK))
	}
}

// TestSmallAgain is about P32.1: releases that are not small expose nothing, until others make them small.
func TestSmallAgain(t *testing.T) {
	l := []api.Release{release(0, []int{65536}, []int{0, 0}), release(1, []int{65536, 0}, []int{0, 1})}
	got, e := differencing.Exposed(space(2), l, []int{0}, 1)
	want(t, "never small", fmt.Sprint(got, e), fmt.Sprint([]api.Exposed{}, api.ErrLimit))
	l = []api.Release{release(0, []int{60000}, []int{0, 0}), release(1, []int{60000, 0}, []int{0, 1})}
	got, e = differencing.Exposed(space(2), l, []int{0, 1}, 100)
	want(t, "small by the second one", fmt.Sprint(got, e), fmt.Sprint([]api.Exposed{{Cell: 0, Reach: api.Reach{Low: 60000, High: 60000}, First: 1}, {Cell: 1, Reach: api.Reach{}, First: 1}}, api.OK))
	numbers, e := differencing.Causes(space(2), l, 0, 100)
	want(t, "causes", fmt.Sprint(numbers, e), "[1] 0")
}

// TestCauses is about P32.2.
func TestCauses(t *testing.T) {
	again := append(two(), release(9, []int{5, 2}, []int{0, 0, 1}), release(11, []int{hidden}, []int{0, 0, 0}))
	for cell, should := range [][]int{{7}, {3, 7}, {3}} {
		numbers, e := differencing.Causes(space(3), again, cell, 1)
		want(t, fmt.Sprint("causes of ", cell), fmt.Sprint(numbers, e), fmt.Sprint(should, api.OK))
	}
	r := rand.New(rand.NewSource(2))
	longest := 0
	for range 300 {
		s := []api.Space{space(4), space(2, 3), space(2, 2, 2)}[r.Intn(3)]
		_, l := random(r, s)
		all, _ := equations.All(s, l)
		if _, e := integers.Reaches(cells.Count(s), all); e != api.OK {
			continue
		}
		cell, margin := r.Intn(cells.Count(s)), 1+r.Intn(3)
		numbers, e := differencing.Causes(s, l, cell, margin)
		if !exposed(s, l, cell, margin) {
			want(t, "not exposed", fmt.Sprint(numbers, e), fmt.Sprint([]int{}, api.ErrNone))
			continue
		}
		left := slices.Clone(l)
		for again := true; again; {
			again = false
			for n := len(left) - 1; n >= 0 && !again; n-- {
				without := slices.Concat(left[:n], left[n+1:])
				if exposed(s, without, cell, margin) {
					left, again = without, true
				}
			}
		}
		var should []int
		for _, x := range left {
			should = append(should, x.Number)
		}
		longest = max(longest, len(should))
		want(t, fmt.Sprint(s, l, cell, margin), fmt.Sprint(numbers, e), fmt.Sprint(should, api.OK))
	}
	want(t, "some have several", longest > 1, true)
}

// TestWitness is about P32.3: two tables that agree with all releases.
func TestWitness(t *testing.T) {
	r := rand.New(rand.NewSource(3))
	for range 200 {
		s := []api.Space{space(4), space(2, 3), space(2, 2, 2)}[r.Intn(3)]
		_, l := random(r, s)
		all, _ := equations.All(s, l)
		for cell := range cells.Count(s) {
			a, b, e := differencing.Witness(s, l, cell)
			c, d, also := integers.Pair(cells.Count(s), all, cell)
			want(t, fmt.Sprint(s, l, cell), fmt.Sprint(a, b, e), fmt.Sprint(c, d, also))
			if e == api.OK {
				want(t, "they agree", equations.Agrees(all, a) && equations.Agrees(all, b), true)
				for margin := 1; margin < 5; margin++ {
					safe, _ := differencing.Safe(s, l, []int{cell}, margin)
					want(t, "safe", safe, b[cell]-a[cell] >= margin)
				}
			}
		}
	}
}

// TestMore is about P32.1: more releases never make an exposed cell safe, and one that hides everything changes nothing.
func TestMore(t *testing.T) {
	r := rand.New(rand.NewSource(4))
	for range 200 {
		s := space(2, 3)
		_, l := random(r, s)
		all := []int{0, 1, 2, 3, 4, 5}
		for n := range l {
			before, e := differencing.Exposed(s, l[:n], all, 2)
			after, also := differencing.Exposed(s, l[:n+1], all, 2)
			if e != api.OK || also != api.OK {
				continue
			}
			for _, x := range before {
				want(t, "still exposed", slices.ContainsFunc(after, func(y api.Exposed) bool { return y.Cell == x.Cell && y.First == x.First }), true)
			}
		}
		a, e := differencing.Exposed(s, l, all, 2)
		b, also := differencing.Exposed(s, append(slices.Clone(l), release(20, []int{hidden}, []int{0, 0}, []int{0, 0, 0})), all, 2)
		want(t, "hidden", fmt.Sprint(a, e), fmt.Sprint(b, also))
	}
}
