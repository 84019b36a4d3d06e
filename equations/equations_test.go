package equations_test

import (
	"fmt"
	"math"
	"slices"
	"testing"

	"dataenclave/api"
	"dataenclave/cells"
	"dataenclave/codes"
	"dataenclave/equations"
	"dataenclave/example"
	"dataenclave/tabulate"
)

func want(t *testing.T, name string, got, want any) {
	t.Helper()
	if fmt.Sprintf("%+v", got) != fmt.Sprintf("%+v", want) {
		t.Errorf("%s: got %+v, want %+v", name, got, want)
	}
}

func space(sizes ...int) api.Space { return api.Space{Sizes: sizes} }

func release(number int, values []int, groups ...[]int) api.Release {
	return api.Release{Number: number, View: api.View{Groups: groups}, Values: values}
}

func eq(value int, cells ...int) api.Equation { return api.Equation{Cells: cells, Value: value} }

const hidden, most = api.Hidden, api.MaxValue

// TestTell is about P29.1: what releases tell.
func TestTell(t *testing.T) {
	s := space(2, 2)
	l, e := equations.Of(s, release(0, []int{3, hidden}, []int{0, 1}, []int{0, 0}))
	want(t, "the chapter's example", fmt.Sprint(l, e), fmt.Sprint([]api.Equation{eq(3, 0, 1)}, api.OK))
	a, b := release(2, []int{0, most, 4}, []int{0, 1}, []int{0, -1}), release(23, []int{9, hidden, 7, 8}, []int{0, 1}, []int{0, 1})
	a.Values = a.Values[:2]
	l, e = equations.All(s, []api.Release{a, b})
	want(t, "in order", fmt.Sprint(l, e), fmt.Sprint([]api.Equation{eq(0, 0), eq(most, 2), eq(9, 0), eq(7, 2), eq(8, 3)}, api.OK))
	want(t, "check", equations.Check(s, []api.Release{a, b}), api.OK)
	l, e = equations.All(s, nil)
	want(t, "nothing", fmt.Sprint(l, e), "[] 0")
	l, e = equations.All(space(3), []api.Release{release(0, []int{5, 1}, []int{0, 1, 0})})
	want(t, "cells that do not stand together", fmt.Sprint(l, e), fmt.Sprint([]api.Equation{eq(5, 0, 2), eq(1, 1)}, api.OK))
}

// TestCheck is about P29.1: errors, of which the first one counts.
func TestCheck(t *testing.T) {
	one := []int{0}
	many := func(n int) []api.Release {
		var l []api.Release
		for i := range n {
			l = append(l, release(i, []int{1}, one))
		}
		return l
	}
	for _, c := range []struct {
		name string
		s    api.Space
		l    []api.Release
		e    api.Errno
	}{
		{"the space first", space(0), many(25), api.ErrSpace},
		{"24 releases", space(1), many(24), api.OK},
		{"25 releases", space(1), append([]api.Release{{Number: -1}}, many(24)...), api.ErrLimit},
		{"a number below 0", space(1), []api.Release{release(-1, nil)}, api.ErrNumber},
		{"a number too great", space(1), []api.Release{release(24, nil)}, api.ErrNumber},
		{"numbers that are equal", space(1), []api.Release{release(5, []int{1}, one), release(5, nil)}, api.ErrNumber},
		{"numbers that fall", space(1), []api.Release{release(5, []int{1}, one), release(4, nil)}, api.ErrNumber},
		{"a view", space(1), []api.Release{release(5, nil, []int{1})}, api.ErrSpace},
		{"no view", space(1), []api.Release{release(5, nil)}, api.ErrSpace},
		{"too few values", space(2), []api.Release{release(5, []int{-5}, []int{0, 1})}, api.ErrLength},
		{"too many values", space(2), []api.Release{release(5, []int{1, 2, 3}, []int{0, 1})}, api.ErrLength},
		{"a value below hidden", space(2), []api.Release{release(5, []int{1, -2}, []int{0, 1})}, api.ErrRange},
		{"a value too great", space(2), []api.Release{release(5, []int{most + 1, 1}, []int{0, 1})}, api.ErrRange},
		{"the first release before the second", space(2), []api.Release{release(5, []int{1, math.MinInt}, []int{0, 1}), release(4, nil)}, api.ErrRange},
		{"the greatest value", space(2), []api.Release{release(23, []int{most, 0}, []int{0, 1})}, api.OK},
	} {
		want(t, c.name, equations.Check(c.s, c.l), c.e)
		l, e := equations.All(c.s, c.l)
		want(t, c.name+": all", e, c.e)
		want(t, c.name+": nothing", len(l) > 0, e == api.OK)
		if len(c.l) == 1 {
			_, e = equations.Of(c.s, c.l[0])
			want(t, c.name+": of", e, c.e)
		}
	}
}

// TestValid is about P29.2.
func TestValid(t *testing.T) {
	many := make([]api.Equation, 24*48+1)
	for i := range many {
		many[i] = eq(1, 0)
	}
	for i, c := range []struct {
		cells int
		l     []api.Equation
		is    bool
	}{
		{1, nil, true}, {48, nil, true}, {0, nil, false}, {49, nil, false}, {-1, nil, false}, {math.MaxInt, nil, false},
		{1, many[1:], true}, {1, many, false},
		{3, []api.Equation{eq(0, 0, 2), eq(most, 1)}, true}, {3, []api.Equation{eq(0)}, false}, {3, []api.Equation{eq(-1, 0)}, false}, {3, []api.Equation{eq(most+1, 0)}, false},
		{3, []api.Equation{eq(1, 0, 3)}, false}, {3, []api.Equation{eq(1, -1, 0)}, false}, {3, []api.Equation{eq(1, 1, 1)}, false}, {3, []api.Equation{eq(1, 2, 1)}, false}, {3, []api.Equation{eq(1, 0), eq(1, 3)}, false},
	} {
		want(t, fmt.Sprint(i), equations.Valid(c.cells, c.l), c.is)
	}
}

// TestAgrees is about P29.2.
func TestAgrees(t *testing.T) {
	l := []api.Equation{eq(3, 0, 1), eq(1, 1, 2)}
	for _, c := range []struct {
		l     []api.Equation
		table []int
		is    bool
	}{
		{l, []int{3, 0, 1}, true}, {l, []int{2, 1, 0}, true}, {l, []int{2, 1, 0, 99}, true}, {l, []int{2, 1}, false}, {l, []int{3, 0, 0}, false}, {l, []int{4, -1, 2}, false}, {l, nil, false},
		{nil, nil, true}, {nil, []int{5}, true}, {nil, []int{-1}, false}, {nil, []int{most}, true}, {nil, []int{0, most + 1}, false}, {l, []int{2, 1, 0, -1}, false}, {l, []int{2, 1, 0, most + 1}, false},
		{[]api.Equation{eq(0)}, nil, true}, {[]api.Equation{eq(1)}, nil, false}, {[]api.Equation{eq(5, -1)}, []int{5}, false}, {[]api.Equation{eq(5, 1, 0)}, []int{2, 3}, true}, {[]api.Equation{eq(2*most, 0, 1)}, []int{most, most}, true}, {[]api.Equation{eq(5, math.MaxInt)}, []int{5}, false},
	} {
		want(t, fmt.Sprint(c.l, c.table), equations.Agrees(c.l, c.table), c.is)
	}
}

// TestTouched is about P29.2.
func TestTouched(t *testing.T) {
	l := []api.Equation{eq(3, 5, 1), eq(1, -2, 1, 7), {}, eq(9, 0)}
	for cells, touched := range map[int][]int{8: {0, 1, 5, 7}, 7: {0, 1, 5}, 1: {0}, 0: nil, -1: nil, math.MaxInt: {0, 1, 5, 7}, math.MinInt: nil} {
		want(t, fmt.Sprint(cells), equations.Touched(cells, l), touched)
	}
	want(t, "of nothing", equations.Touched(5, nil), []int{})
}

// TestReduce is about P29.3.
func TestReduce(t *testing.T) {
	l := []api.Equation{eq(3, 0, 1), eq(1, 2), eq(3, 0, 1), eq(1, 1), eq(1, 2), eq(3, 0)}
	got, e := equations.Reduce(3, l)
	want(t, "reduce", fmt.Sprint(got, e), fmt.Sprint([]api.Equation{l[0], l[1], l[3], l[5]}, api.OK))
	want(t, "it stays", l[2], eq(3, 0, 1))
	for _, c := range []struct {
		cells int
		l     []api.Equation
		e     api.Errno
	}{
		{2, l, api.ErrSpace}, {0, nil, api.ErrSpace}, {3, []api.Equation{eq(1, 0), eq(2, 0), eq(1, 3)}, api.ErrSpace}, {3, []api.Equation{eq(1, 0), eq(2, 1), eq(2, 0)}, api.ErrConflict}, {3, nil, api.OK},
	} {
		got, e := equations.Reduce(c.cells, c.l)
		want(t, fmt.Sprint(c.l), fmt.Sprint(got, e), fmt.Sprint([]api.Equation{}, c.e))
	}
}

// TestSpace is about P29.4.
func TestSpace(t *testing.T) {
	s := example.Schema()
	x, columns, e := equations.Space(s)
	want(t, "of the example", fmt.Sprint(x, columns, e), fmt.Sprint(space(3, 2, 2), []int{1, 2, 6}, api.OK))
	all := s.Columns
	none, one := s, s
	none.Columns = []api.Column{all[0], all[3]}
	one.Columns = []api.Column{all[0], all[3], all[6]}
	large := example.Schema()
	for i := range 3 {
		large.Lists[0].Codes = append(large.Lists[0].Codes, api.Code{Name: fmt.Sprintf("x%d", i), Parent: 2})
	}
	wide := example.Schema()
	for i := range 2 {
		wide.Columns[3+i] = wide.Columns[1]
		wide.Columns[3+i].Name = fmt.Sprintf("again%d", i)
	}
	wrong := example.Schema()
	wrong.Columns[1].Name = "person"
	for _, c := range []struct {
		name string
		s    api.Schema
		e    api.Errno
	}{{"one coded column", one, api.OK}, {"no coded column", none, api.ErrSpace}, {"24 cells", large, api.OK}, {"108 cells", wide, api.ErrSpace}, {"a wrong schema", wrong, api.ErrDuplicate}} {
		x, columns, e := equations.Space(c.s)
		want(t, c.name, e, c.e)
		_, also := equations.Table(c.s, api.Table{Dims: example.Picks(9, 9)}, -1)
		if e != api.OK {
			want(t, c.name, fmt.Sprint(x, columns), fmt.Sprint(api.Space{}, []int{}))
			want(t, c.name, also, c.e)
		} else {
			want(t, c.name, also, api.ErrPlan)
		}
	}
}

// counts are the rows of the example in each cell of its space.
func counts(s api.Schema) []int {
	x, columns, _ := equations.Space(s)
	table := make([]int, cells.Count(x))
	for _, row := range example.Rows() {
		var at []int
		for _, column := range columns {
			l := s.Lists[s.Columns[column].List]
			at = append(at, slices.Index(codes.At(l, codes.Levels(l)-1), row[column]))
		}
		cell, _ := cells.Index(x, at)
		table[cell]++
	}
	return table
}

// TestTable is about P29.4: a table of all rows tells what agrees with them.
func TestTable(t *testing.T) {
	s := example.Schema()
	x, _, _ := equations.Space(s)
	for _, c := range []struct {
		dims   []int
		groups [][]int
	}{
		{[]int{1, 1}, [][]int{{0, 0, 1}, {0, 0}, {0, 0}}},
		{[]int{1, 2, 2, 1}, [][]int{{0, 1, 2}, {0, 1}, {0, 0}}},
		{[]int{6, 1, 1, 2}, [][]int{{0, 1, 2}, {0, 0}, {0, 1}}},
		{[]int{6, 2, 2, 1, 1, 1}, [][]int{{0, 0, 1}, {0, 1}, {0, 1}}},
		{[]int{1, 0}, [][]int{{0, 0, 0}, {0, 0}, {0, 0}}},
		{[]int{2, 0, 1, 2}, [][]int{{0, 1, 2}, {0, 0}, {0, 0}}},
	} {
		table, e := tabulate.Make(s, example.Extract(), example.Picks(c.dims...), -1, api.Cond{Op: api.CondAll})
		want(t, "table", e, api.OK)
		r, e := equations.Table(s, table, 5)
		want(t, fmt.Sprint(c.dims), fmt.Sprint(r.Number, r.View.Groups, e), fmt.Sprint(5, c.groups, api.OK))
		sums, _ := cells.Publish(x, r.View, counts(s))
		want(t, fmt.Sprint(c.dims), r.Values, sums)
		l, e := equations.Of(x, r)
		want(t, "it agrees", fmt.Sprint(equations.Agrees(l, counts(s)), len(l), e), fmt.Sprint(true, len(sums), api.OK))
	}
	mixed := example.Schema()
	mixed.Lists[0].Codes = []api.Code{{Name: "r", Parent: -1}, {Name: "a"}, {Name: "b"}, {Name: "b1", Parent: 2}, {Name: "a1", Parent: 1}, {Name: "b2", Parent: 2}}
	odd := api.Table{Dims: example.Picks(1, 1), Cells: []api.TableCell{{Codes: []int{1}, Count: 4}, {Codes: []int{2}, Count: 7}, {Codes: []int{2}, Count: 8}}}
	r, e := equations.Table(mixed, odd, 0)
	want(t, "groups in the order of the leaves", fmt.Sprint(r, e), fmt.Sprint(release(0, []int{7, 4}, []int{0, 1, 0}, []int{0, 0}, []int{0, 0}), api.OK))
	r, e = equations.Table(mixed, api.Table{Cells: []api.TableCell{{Codes: []int{-1}}, {Count: 9}}}, 23)
	want(t, "without dimensions", fmt.Sprint(r, e), fmt.Sprint(release(23, []int{9}, []int{0, 0, 0}, []int{0, 0}, []int{0, 0}), api.OK))
}

// TestTableErrors is about P29.4.
func TestTableErrors(t *testing.T) {
	s := example.Schema()
	made, _ := tabulate.Make(s, example.Extract(), example.Picks(1, 2, 2, 1), -1, api.Cond{Op: api.CondAll})
	with := func(change func(x *api.Table)) api.Table {
		x := made
		x.Cells = slices.Clone(made.Cells)
		change(&x)
		return x
	}
	for _, c := range []struct {
		name   string
		t      api.Table
		number int
		e      api.Errno
	}{
		{"right", made, 0, api.OK},
		{"a measure", with(func(x *api.Table) { x.Dims = example.Picks(3, 1) }), -1, api.ErrPlan},
		{"the id", with(func(x *api.Table) { x.Dims = example.Picks(0, 0) }), -1, api.ErrPlan},
		{"no column", with(func(x *api.Table) { x.Dims = example.Picks(7, 0) }), -1, api.ErrPlan},
		{"no level", with(func(x *api.Table) { x.Dims = example.Picks(1, 3) }), -1, api.ErrPlan},
		{"a level below 0", with(func(x *api.Table) { x.Dims = example.Picks(1, -1) }), -1, api.ErrPlan},
		{"a column twice", with(func(x *api.Table) { x.Dims = example.Picks(1, 1, 1, 2) }), -1, api.ErrPlan},
		{"a cell that is not there", with(func(x *api.Table) { x.Cells = x.Cells[:len(x.Cells)-1] }), -1, api.ErrNone},
		{"other dimensions", with(func(x *api.Table) { x.Dims = example.Picks(1, 2) }), 0, api.ErrNone},
		{"a number below 0", made, -1, api.ErrRange},
		{"a number too great", made, 24, api.ErrRange},
		{"the greatest number", made, 23, api.OK},
		{"a count below 0", with(func(x *api.Table) { x.Cells[len(x.Cells)-1].Count = -1 }), 0, api.ErrRange},
		{"a count too great", with(func(x *api.Table) { x.Cells[len(x.Cells)-1].Count = most + 1 }), 0, api.ErrRange},
		{"the greatest count", with(func(x *api.Table) { x.Cells[len(x.Cells)-1].Count = most }), 0, api.OK},
		{"margins do not matter", with(func(x *api.Table) { x.Cells[0].Count = -1 }), 0, api.OK},
		{"nothing", api.Table{}, 0, api.ErrNone},
	} {
		r, e := equations.Table(s, c.t, c.number)
		want(t, c.name, e, c.e)
		if e != api.OK {
			want(t, c.name, r, api.Release{})
		}
	}
}
