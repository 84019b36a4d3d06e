package attacker_test

import (
	"fmt"
	"math"
	"math/rand"
	"slices"
	"testing"

	"dataenclave/api"
	"dataenclave/attacker"
	"dataenclave/cells"
	"dataenclave/equations"
	"dataenclave/integers"
)

func want(t *testing.T, name string, got, want any) {
	t.Helper()
	if fmt.Sprint(got) != fmt.Sprint(want) {
		t.Errorf("%s: got %v, want %v", name, got, want)
	}
}

func space(sizes ...int) api.Space { return api.Space{Sizes: sizes} }

func release(number int, values []int, groups ...[]int) api.Release {
	return api.Release{Number: number, View: api.View{Groups: groups}, Values: values}
}

const hidden = api.Hidden

// random makes releases of a table, some values of which are hidden.
func random(r *rand.Rand, s api.Space) []api.Release {
	var table []int
	for range cells.Count(s) {
		table = append(table, r.Intn(3))
	}
	var l []api.Release
	for n := range r.Intn(4) {
		var v api.View
		for _, size := range s.Sizes {
			groups, next := make([]int, size), 0
			for i := range groups {
				groups[i] = r.Intn(next + 1)
				if r.Intn(2) == 0 {
					groups[i] = next
				}
				if groups[i] == next {
					next++
				}
			}
			v.Groups = append(v.Groups, groups)
		}
		values, _ := cells.Publish(s, v, table)
		for i := range values {
			if r.Intn(3) == 0 {
				values[i] = hidden
			}
		}
		l = append(l, api.Release{Number: n, View: v, Values: values})
	}
	return l
}

// tables are all tables that agree, of releases that are small.
func tables(s api.Space, l []api.Release) [][]int {
	all, _ := equations.All(s, l)
	found, _ := integers.Solutions(cells.Count(s), all, 1000)
	if len(found) == 1000 {
		return nil
	}
	return found
}

func touched(s api.Space, l []api.Release) []int {
	all, _ := equations.All(s, l)
	return equations.Touched(cells.Count(s), all)
}

// values are the numbers that a cell has in tables.
func values(l [][]int, cell int) []int {
	var all []int
	for _, table := range l {
		all = append(all, table[cell])
	}
	slices.Sort(all)
	return slices.Compact(all)
}

func certain(s api.Space, l []api.Release, all [][]int) []int {
	var cells []int
	for _, cell := range touched(s, l) {
		if len(values(all, cell)) == 1 {
			cells = append(cells, cell)
		}
	}
	return cells
}

// TestByTables is about P43.1 and P43.2.
func TestByTables(t *testing.T) {
	r := rand.New(rand.NewSource(1))
	known, learnt := 0, 0
	for range 400 {
		s := []api.Space{space(4), space(2, 3), space(2, 2, 2)}[r.Intn(3)]
		l := random(r, s)
		all := tables(s, l)
		if all == nil {
			continue
		}
		for _, most := range []int{1, 2, 1000} {
			got, e := attacker.Tables(s, l, most)
			want(t, "tables", fmt.Sprint(got, e), fmt.Sprint(all[:min(most, len(all))], api.OK))
		}
		got, e := attacker.Certain(s, l)
		should := certain(s, l, all)
		known += len(should)
		want(t, fmt.Sprint("certain ", s, l), fmt.Sprint(got, e), fmt.Sprint(should, api.OK))
		told, _ := equations.All(s, l)
		reaches, _ := integers.Reaches(cells.Count(s), told)
		for cell := range cells.Count(s) {
			numbers, e := attacker.Values(s, l, cell)
			if !slices.Contains(touched(s, l), cell) {
				want(t, "none", fmt.Sprint(numbers, e), fmt.Sprint([]int{}, api.ErrNone))
				continue
			}
			want(t, fmt.Sprint("values ", s, l, cell), fmt.Sprint(numbers, e), fmt.Sprint(values(all, cell), api.OK))
			want(t, "the least and the greatest", fmt.Sprint(numbers[0], numbers[len(numbers)-1]), fmt.Sprint(reaches[cell].Low, reaches[cell].High))
		}
		if len(l) > 0 {
			last := len(l) - 1
			before := tables(s, l[:last])
			if before == nil {
				continue
			}
			were := certain(s, l[:last], before)
			news := slices.DeleteFunc(slices.Clone(should), func(cell int) bool { return slices.Contains(were, cell) })
			learnt += len(news)
			got, e := attacker.Learns(s, l[:last], l[last])
			want(t, fmt.Sprint("learns ", s, l), fmt.Sprint(got, e), fmt.Sprint(news, api.OK))
		}
	}
	want(t, "something is known, and learnt", known > 100 && learnt > 50, true)
}

// TestNamed is about P43.1 and P43.2: the example of the chapter, and releases with hidden values.
func TestNamed(t *testing.T) {
	sum := release(0, []int{1}, []int{0, 0})
	one := release(1, []int{1}, []int{0, -1})
	for _, c := range []struct {
		l       []api.Release
		certain []int
		values  string
	}{{[]api.Release{sum}, nil, "[0 1] 0 [0 1] 0"}, {[]api.Release{sum, one}, []int{0, 1}, "[1] 0 [0] 0"}} {
		got, e := attacker.Certain(space(2), c.l)
		want(t, "certain", fmt.Sprint(got, e), fmt.Sprint(c.certain, api.OK))
		a, e := attacker.Values(space(2), c.l, 0)
		b, f := attacker.Values(space(2), c.l, 1)
		want(t, "values", fmt.Sprint(a, e, b, f), c.values)
	}
	got, e := attacker.Learns(space(2), []api.Release{sum}, one)
	want(t, "learns", fmt.Sprint(got, e), "[0 1] 0")
	got, e = attacker.Learns(space(2), []api.Release{sum}, release(1, []int{hidden}, []int{0, -1}))
	want(t, "hidden values teach nothing", fmt.Sprint(got, e), "[] 0")
	got, e = attacker.Certain(space(3), nil)
	want(t, "nothing is told", fmt.Sprint(got, e), "[] 0")
	several := []api.Release{release(0, []int{2, hidden, 2, hidden}, []int{0, 0, 1, 1}, []int{0, 1}), release(1, []int{2, 2, hidden, hidden}, []int{0, 1, 1, 0}, []int{0, 1})}
	all := tables(space(4, 2), several)
	for cell := range 8 {
		numbers, e := attacker.Values(space(4, 2), several, cell)
		if e == api.OK {
			want(t, fmt.Sprint("values of ", cell), numbers, values(all, cell))
		}
	}
}

// TestErrors is about P43.1 and P43.2: errors, of which the first one counts.
func TestErrors(t *testing.T) {
	large := []api.Release{release(0, []int{65536}, []int{0, -1})}
	big := release(0, []int{65535, 1}, []int{0, 1})
	conflict := []api.Release{release(0, []int{1}, []int{0, 0}), release(1, []int{2}, []int{0, 0})}
	wrong := []api.Release{release(5, []int{1}, []int{0, 0}), release(5, []int{1}, []int{0, 0})}
	for i, c := range []struct {
		s                      api.Space
		l                      []api.Release
		most, cell             int
		tables, certain, value api.Errno
	}{
		{space(0), nil, 0, 9, api.ErrSpace, api.ErrSpace, api.ErrSpace}, {space(2), wrong, 0, 9, api.ErrNumber, api.ErrNumber, api.ErrNumber}, {space(2), large, 0, 9, api.ErrLimit, api.ErrLimit, api.ErrLimit}, {space(2), []api.Release{big}, 1, 0, api.ErrLimit, api.ErrLimit, api.ErrLimit},
		{space(2), conflict, 0, 2, api.ErrRange, api.ErrConflict, api.ErrRange}, {space(2), conflict, 1001, -1, api.ErrRange, api.ErrConflict, api.ErrRange}, {space(2), conflict, math.MinInt, math.MaxInt, api.ErrRange, api.ErrConflict, api.ErrRange}, {space(2), conflict, 1, 1, api.OK, api.ErrConflict, api.ErrConflict},
		{space(2), nil, 1000, 1, api.OK, api.OK, api.ErrNone}, {space(2), []api.Release{release(0, []int{65535}, []int{0, -1})}, 1, 1, api.OK, api.OK, api.ErrNone},
	} {
		got, e := attacker.Tables(c.s, c.l, c.most)
		want(t, fmt.Sprint("tables ", i), fmt.Sprint(len(got) > 0, e), fmt.Sprint(c.tables == api.OK && c.certain == api.OK, c.tables))
		l, e := attacker.Certain(c.s, c.l)
		want(t, fmt.Sprint("certain ", i), e, c.certain)
		numbers, also := attacker.Values(c.s, c.l, c.cell)
		want(t, fmt.Sprint("values ", i), also, c.value)
		want(t, "nothing", fmt.Sprint(e != api.OK && len(l) > 0, len(numbers)), "false 0")
	}
	for i, c := range []struct {
		l []api.Release
		r api.Release
		e api.Errno
	}{
		{wrong[:1], wrong[1], api.ErrNumber}, {wrong[:1], release(6, nil, []int{0, 0}), api.ErrLength}, {large, release(1, []int{1}, []int{-1, 0}), api.ErrLimit}, {conflict[:1], conflict[1], api.ErrConflict}, {conflict, release(2, []int{1}, []int{0, 0}), api.ErrConflict}, {conflict[:1], release(2, []int{1}, []int{0, 0}), api.OK},
		{[]api.Release{release(0, []int{60000}, []int{0, 0})}, release(1, []int{60000, 0}, []int{0, 1}), api.ErrLimit},
	} {
		l, e := attacker.Learns(space(2), c.l, c.r)
		want(t, fmt.Sprint("learns ", i), fmt.Sprint(l, e), fmt.Sprint([]int{}, c.e))
	}
}
