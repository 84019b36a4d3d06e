package tabulate_test

import (
	"fmt"
	"slices"
	"sort"
	"testing"

	"dataenclave/api"
	"dataenclave/codes"
	"dataenclave/condition"
	"dataenclave/example"
	"dataenclave/extract"
	"dataenclave/schema"
	"dataenclave/tabulate"
)

func want(t *testing.T, name string, got, want any) {
	t.Helper()
	if fmt.Sprintf("%+v", got) != fmt.Sprintf("%+v", want) {
		t.Errorf("%s: got %+v, want %+v", name, got, want)
	}
}

func all() api.Cond { return api.Cond{Op: api.CondAll} }

func between(column, low, high int) api.Cond {
	return api.Cond{Op: api.CondBetween, Column: column, Low: low, High: high}
}

// coarse is an extract at coarser levels: area/1, age/1, income/1.
func coarse() api.Extract {
	x := api.Extract{Project: "p", Picks: example.Picks(example.Area, 1, example.Age, 1, example.Income, 1)}
	for _, row := range example.Rows() {
		l := []int{row[0]}
		for _, p := range x.Picks {
			l = append(l, schema.Coarse(example.Schema(), p.Column, p.Level, row[p.Column]))
		}
		x.Rows = append(x.Rows, l)
	}
	return x
}

// TestCounts is about P18.1.
func TestCounts(t *testing.T) {
	s := example.Schema()
	for _, c := range []struct {
		name    string
		x       api.Extract
		cond    api.Cond
		columns []int
		rows    []int
	}{
		{"all", example.Extract(), all(), nil, []int{0, 1, 2, 3, 4, 5, 6, 7, 8, 9}},
		{"true alone", example.Extract(), between(4, 0, 1200), nil, []int{0, 3, 5, 7, 9}},
		{"unknown is not true", example.Extract(), api.Cond{Op: api.CondNot, Kids: []api.Cond{between(4, 0, 1200)}}, nil, []int{1, 4, 6}},
		{"missing does not count", example.Extract(), all(), []int{4}, []int{0, 1, 3, 4, 5, 6, 7, 9}},
		{"several columns", example.Extract(), between(3, 0, 39), []int{3, 4, 5}, []int{0, 4, 5, 7}},
		{"missing itself", example.Extract(), api.Cond{Op: api.CondMissing, Column: 4}, []int{3}, []int{2, 8}},
		{"a code column", example.Extract(), all(), []int{1}, []int{0, 1, 2, 3, 4, 5, 6, 7, 8, 9}},
		{"the id", example.Extract(), all(), []int{0}, nil},
		{"no column", example.Extract(), all(), []int{7}, nil},
		{"no column", example.Extract(), all(), []int{-1}, nil},
		{"decided at a coarse level", coarse(), between(3, 20, 39), nil, []int{0, 4, 5}},
		{"not decided", coarse(), between(3, 20, 38), nil, nil},
		{"known at a coarse level", coarse(), all(), []int{4}, []int{6}},
		{"not known", coarse(), all(), []int{3}, nil},
		{"not there", coarse(), all(), []int{5}, nil},
		{"a wrong condition", example.Extract(), api.Cond{}, nil, nil},
		{"a wrong extract", api.Extract{}, all(), nil, nil},
	} {
		want(t, c.name, tabulate.Counts(s, c.x, c.cond, c.columns), c.rows)
	}
	s.Columns[1].Name = "person"
	want(t, "a wrong schema", tabulate.Counts(s, example.Extract(), all(), nil), []int{})
}

// lists returns all lists with a code of each dimension, or -1, in lexicographic order.
func lists(s api.Schema, dims []api.Pick) [][]int {
	if len(dims) == 0 {
		return [][]int{nil}
	}
	last := dims[len(dims)-1]
	var l [][]int
	for _, before := range lists(s, dims[:len(dims)-1]) {
		for _, code := range append([]int{-1}, codes.At(s.Lists[s.Columns[last.Column].List], last.Level)...) {
			l = append(l, append(slices.Clone(before), code))
		}
	}
	return l
}

// made makes a table cell by cell from all rows.
func made(s api.Schema, dims []api.Pick, measure int, cond api.Cond) api.Table {
	table := api.Table{Dims: dims, Measure: measure}
	for _, l := range lists(s, dims) {
		cell := api.TableCell{Codes: l}
		var amounts []int
		for _, row := range example.Rows() {
			in := condition.Eval(s, cond, row) == api.True
			for i, d := range dims {
				in = in && (l[i] == -1 || schema.Coarse(s, d.Column, d.Level, row[d.Column]) == l[i])
			}
			if !in || measure != -1 && row[measure] == api.Missing {
				continue
			}
			cell.Count++
			cell.Rows = append(cell.Rows, row[0])
			if measure != -1 {
				cell.Sum += row[measure]
				amounts = append(amounts, max(row[measure], -row[measure]))
				cell.Amount += amounts[len(amounts)-1]
			}
		}
		sort.Sort(sort.Reverse(sort.IntSlice(amounts)))
		amounts = append(amounts, 0, 0)
		cell.First, cell.Second = amounts[0], amounts[1]
		table.Cells = append(table.Cells, cell)
	}
	return table
}

// TestMake is about P18.2, cell by cell.
func TestMake(t *testing.T) {
	s := example.Schema()
	for _, c := range []struct {
		dims    []int
		measure int
		cond    api.Cond
	}{
		{[]int{1, 1}, -1, all()}, {[]int{1, 2}, 4, all()}, {[]int{1, 0}, 4, all()}, {[]int{2, 1, 1, 2}, 4, between(3, 20, 99)}, {[]int{1, 1, 2, 1, 6, 2}, 5, all()}, {[]int{6, 2, 1, 2, 2, 0}, 4, between(4, -500, 0)},
		{[]int{6, 1}, 3, api.Cond{Op: api.CondNot, Kids: []api.Cond{all()}}},
	} {
		dims := example.Picks(c.dims...)
		got, e := tabulate.Make(s, example.Extract(), dims, c.measure, c.cond)
		want(t, "error", e, api.OK)
		want(t, fmt.Sprint(c.dims), got, made(s, dims, c.measure, c.cond))
	}
	got, e := tabulate.Make(s, coarse(), example.Picks(1, 1), -1, between(3, 20, 39))
	want(t, "of a coarse extract", fmt.Sprint(got, e), fmt.Sprint(made(s, example.Picks(1, 1), -1, between(3, 20, 39)), api.OK))
	x := api.Extract{Project: "p", Picks: example.Picks(6, 1), Rows: [][]int{{5, 1}, {6, 2}, {9, 1}}}
	got, e = tabulate.Make(s, x, example.Picks(6, 2), -1, all())
	want(t, "a finer level that is known", fmt.Sprint(got.Cells, e), fmt.Sprint([]api.TableCell{{Codes: []int{-1}, Count: 3, Rows: []int{5, 6, 9}}, {Codes: []int{3}, Count: 1, Rows: []int{6}}, {Codes: []int{4}, Count: 2, Rows: []int{5, 9}}}, api.OK))
}

// TestGreatest is about P18.2: amounts, and the two greatest ones.
func TestGreatest(t *testing.T) {
	s := example.Schema()
	x := api.Extract{Project: "p", Picks: example.Picks(4, 2)}
	for i, v := range []int{-400, 30, 400, -399, api.Missing, 0} {
		x.Rows = append(x.Rows, []int{i, v})
	}
	for n, c := range [][5]int{{0, 0, 0, 0, 0}, {1, -400, 400, 400, 0}, {2, -370, 430, 400, 30}, {3, 30, 830, 400, 400}, {4, -369, 1229, 400, 400}, {4, -369, 1229, 400, 400}, {5, -369, 1229, 400, 400}} {
		y := x
		y.Rows = x.Rows[:n]
		got, e := tabulate.Make(s, y, example.Picks(1, 0), 4, all())
		want(t, "error", e, api.OK)
		cell := got.Cells[0]
		want(t, fmt.Sprint(n), [5]int{cell.Count, cell.Sum, cell.Amount, cell.First, cell.Second}, c)
	}
}

// large has a list with 60 codes, and one with 30.
func large() api.Schema {
	s := api.Schema{Columns: []api.Column{{Name: "p", Kind: api.ColumnId}, {Name: "x", Kind: api.ColumnCode, List: 0}, {Name: "y", Kind: api.ColumnCode, List: 1}, {Name: "z", Kind: api.ColumnCode, List: 1}}}
	for i, n := range []int{api.MaxCodes, 32} {
		l := api.CodeList{Name: fmt.Sprintf("l%d", i)}
		for k := range n {
			l.Codes = append(l.Codes, api.Code{Name: fmt.Sprintf("c%d", k), Parent: min(k, 1) - 1})
		}
		s.Lists = append(s.Lists, l)
	}
	return s
}

// TestMakeErrors is about P18.2: errors, of which the first one counts.
func TestMakeErrors(t *testing.T) {
	s := example.Schema()
	short := example.Extract()
	short.Picks, short.Rows = example.Picks(1, 1), nil
	for _, c := range []struct {
		name    string
		x       api.Extract
		dims    []int
		measure int
		cond    api.Cond
		e       api.Errno
	}{
		{"the extract first", api.Extract{}, nil, 0, api.Cond{}, api.ErrName},
		{"the condition", example.Extract(), nil, 0, api.Cond{}, api.ErrKind},
		{"no dimensions", example.Extract(), nil, 0, all(), api.ErrLimit},
		{"too many dimensions", example.Extract(), []int{1, 0, 2, 0, 6, 0, 3, 0}, -1, all(), api.ErrLimit},
		{"a level", example.Extract(), []int{1, 3}, 0, all(), api.ErrLevel},
		{"a measure as a dimension", example.Extract(), []int{3, 1}, -1, all(), api.ErrColumn},
		{"twice", example.Extract(), []int{1, 1, 1, 2}, -1, all(), api.ErrDuplicate},
		{"a measure", short, []int{1, 2}, 1, all(), api.ErrColumn},
		{"no measure", example.Extract(), []int{1, 1}, -2, all(), api.ErrColumn},
		{"a dimension that is too fine", short, []int{1, 2}, -1, all(), api.ErrPlan},
		{"a measure that is not there", short, []int{1, 1}, 3, all(), api.ErrPlan},
		{"a condition that is not known", short, []int{1, 1}, -1, between(3, 20, 39), api.ErrPlan},
		{"what is known", short, []int{1, 1}, -1, between(3, 0, 99), api.OK},
	} {
		got, e := tabulate.Make(s, c.x, example.Picks(c.dims...), c.measure, c.cond)
		want(t, c.name, e, c.e)
		if e != api.OK {
			want(t, c.name, got, api.Table{})
		}
	}
	x := api.Extract{Project: "p", Picks: example.Picks(1, 1, 2, 1)}
	got, e := tabulate.Make(large(), x, example.Picks(1, 1, 2, 1), -1, all())
	want(t, "60 times 32 cells", fmt.Sprint(len(got.Cells), e), fmt.Sprint(60*32, api.OK))
	_, e = tabulate.Make(large(), x, example.Picks(1, 1, 2, 1, 3, 1), -1, all())
	want(t, "the plan before the limit", e, api.ErrPlan)
	x.Picks = example.Picks(1, 1, 2, 1, 3, 1)
	_, e = tabulate.Make(large(), x, example.Picks(1, 1, 2, 1, 3, 0), -1, all())
	want(t, "too many cells", e, api.ErrLimit)
	s = large()
	s.Lists[0].Codes = s.Lists[0].Codes[:50]
	s.Lists[1].Codes = s.Lists[1].Codes[:20]
	_, e = tabulate.Make(s, x, example.Picks(1, 1, 2, 1, 3, 0), -1, all())
	want(t, "just as many cells as there can be", fmt.Sprint(50*20*2, e), fmt.Sprint(api.MaxCells, api.OK))
	s.Columns[1].Name = "p"
	_, e = tabulate.Make(s, x, nil, -1, all())
	want(t, "a wrong schema", e, api.ErrDuplicate)
}

// TestFind is about P18.3.
func TestFind(t *testing.T) {
	table, _ := tabulate.Make(example.Schema(), example.Extract(), example.Picks(1, 1, 2, 1), -1, all())
	for i, l := range lists(example.Schema(), table.Dims) {
		want(t, fmt.Sprint(l), tabulate.Find(table, l), i)
	}
	for _, l := range [][]int{nil, {-1}, {0, -1}, {3, 1}, {-1, -1, -1}} {
		want(t, fmt.Sprint(l), tabulate.Find(table, l), -1)
	}
	odd := api.Table{Cells: []api.TableCell{{Codes: []int{5}}, {}, {Codes: []int{5}}}}
	want(t, "of any table", fmt.Sprint(tabulate.Find(odd, []int{5}), tabulate.Find(odd, nil)), "0 1")
}

// TestInside is about P18.3.
func TestInside(t *testing.T) {
	s := example.Schema()
	table, _ := tabulate.Make(s, example.Extract(), example.Picks(1, 1, 2, 1), -1, all())
	for a := -1; a <= len(table.Cells); a++ {
		for b := -1; b <= len(table.Cells); b++ {
			is := a >= 0 && b >= 0 && a < len(table.Cells) && b < len(table.Cells)
			for i := 0; is && i < 2; i++ {
				of := table.Cells[b].Codes[i]
				is = of == -1 || of == table.Cells[a].Codes[i]
			}
			want(t, fmt.Sprint(a, " inside ", b), tabulate.Inside(s, table, a, b), is)
		}
	}
	odd := api.Table{Dims: example.Picks(1, 1), Cells: []api.TableCell{{Codes: []int{1}}, {}, {Codes: []int{-1, -1}}, {Codes: []int{-1}}}}
	for _, c := range []struct {
		a, b int
		is   bool
	}{{0, 3, true}, {1, 3, false}, {2, 3, false}, {0, 1, false}, {0, 2, false}, {3, 0, false}, {1, 1, false}, {3, 3, true}} {
		want(t, fmt.Sprint("odd ", c.a, c.b), tabulate.Inside(s, odd, c.a, c.b), c.is)
	}
	want(t, "whatever the schema is", tabulate.Inside(api.Schema{}, odd, 0, 3), true)
}

// TestMargins is about P18.2: a cell with -1 at a place is the sum of those with the codes there.
func TestMargins(t *testing.T) {
	s := example.Schema()
	table, _ := tabulate.Make(s, example.Extract(), example.Picks(1, 2, 2, 1), 4, all())
	for n, cell := range table.Cells {
		for place := range 2 {
			if cell.Codes[place] != -1 {
				continue
			}
			sum := api.TableCell{Codes: cell.Codes}
			for m, part := range table.Cells {
				if part.Codes[place] != -1 && part.Codes[1-place] == cell.Codes[1-place] {
					want(t, "inside", tabulate.Inside(s, table, m, n), true)
					sum.Count, sum.Sum, sum.Amount, sum.First = sum.Count+part.Count, sum.Sum+part.Sum, sum.Amount+part.Amount, max(sum.First, part.First)
				}
			}
			want(t, "sum", fmt.Sprint(cell.Count, cell.Sum, cell.Amount, cell.First), fmt.Sprint(sum.Count, sum.Sum, sum.Amount, sum.First))
		}
	}
	want(t, "right", extract.Check(s, example.Extract()), api.OK)
}
