package minimise_test

import (
	"fmt"
	"math/rand"
	"testing"

	"dataenclave/api"
	"dataenclave/example"
	"dataenclave/minimise"
	"dataenclave/questions"
	"dataenclave/schema"
)

func want(t *testing.T, name string, got, want any) {
	t.Helper()
	if fmt.Sprintf("%+v", got) != fmt.Sprintf("%+v", want) {
		t.Errorf("%s: got %+v, want %+v", name, got, want)
	}
}

func all() api.Cond { return api.Cond{Op: api.CondAll} }

func between(column, low, high int) api.Cond {
	return api.Cond{Op: api.CondBetween, Column: column, Low: low, High: high}
}

func under(column, code int) api.Cond {
	return api.Cond{Op: api.CondUnder, Column: column, Code: code}
}

func table(name string, measure int, filter api.Cond, dims ...int) api.Question {
	return api.Question{Name: name, Kind: api.AskTable, Filter: filter, Dims: example.Picks(dims...), Measure: measure}
}

func project(l ...api.Question) api.Declaration {
	return api.Declaration{Project: "p", Source: "s", Cohort: all(), Sample: api.Sample{Part: 1, Of: 1}, Questions: l}
}

// TestPlan is about P10.1.
func TestPlan(t *testing.T) {
	s := example.Schema()
	l, e := minimise.Plan(s, example.Declaration())
	want(t, "of the example", fmt.Sprint(l, e), fmt.Sprint(example.Picks(1, 1, 2, 1, 3, 3, 4, 2, 5, 2, 6, 1), api.OK))
	d := project(table("a", -1, all(), 1, 1), table("b", -1, all(), 1, 2), table("c", -1, between(3, 20, 39), 2, 0))
	l, e = minimise.Plan(s, d)
	want(t, "the greatest of the levels", fmt.Sprint(l, e), fmt.Sprint(example.Picks(1, 2, 3, 1), api.OK))
	d.Cohort = between(5, 1, 2)
	l, e = minimise.Plan(s, d)
	want(t, "the cohort needs nothing", fmt.Sprint(l, e), fmt.Sprint(example.Picks(1, 2, 3, 1), api.OK))
	l, e = minimise.Plan(s, project(table("a", -1, all(), 1, 0)))
	want(t, "an empty plan", fmt.Sprint(l, e), "[] 0")
	for _, c := range []struct {
		d api.Declaration
		e api.Errno
	}{{api.Declaration{}, api.ErrName}, {project(), api.ErrLimit}, {project(table("a", -1, all(), 1, 3)), api.ErrLevel}} {
		l, e := minimise.Plan(s, c.d)
		want(t, "error", fmt.Sprint(l, e), fmt.Sprint([]api.Pick{}, c.e))
		want(t, "error of check", minimise.Check(s, c.d, example.Picks(9, 9)), c.e)
	}
	s.Columns[1].Name = "person"
	_, e = minimise.Plan(s, d)
	want(t, "a wrong schema", e, api.ErrDuplicate)
}

// TestCheck is about P10.2.
func TestCheck(t *testing.T) {
	s := example.Schema()
	d := project(table("a", -1, all(), 1, 1), table("b", -1, between(3, 20, 39), 1, 2))
	for _, c := range []struct {
		picks []api.Pick
		e     api.Errno
	}{
		{example.Picks(1, 2, 3, 1), api.OK}, {example.Picks(1, 2, 2, 0, 3, 3), api.OK},
		{example.Picks(1, 1, 3, 1), api.ErrPlan}, {example.Picks(1, 2), api.ErrPlan}, {nil, api.ErrPlan}, {example.Picks(1, 2, 3, 0), api.ErrPlan},
		{example.Picks(3, 1, 1, 2), api.ErrDuplicate}, {example.Picks(1, 3), api.ErrLevel}, {example.Picks(0, 0), api.ErrColumn},
	} {
		want(t, fmt.Sprint(c.picks), minimise.Check(s, d, c.picks), c.e)
	}
	s.Columns[1].Name = "person"
	want(t, "a wrong schema", minimise.Check(s, d, nil), api.ErrDuplicate)
}

// tiny has small columns, so that all values can be tried.
func tiny(r *rand.Rand) api.Schema {
	low := r.Intn(7) - 3
	return api.Schema{
		Lists: []api.CodeList{example.Schema().Lists[0], {Name: "mixed", Codes: []api.Code{{Name: "r", Parent: -1}, {Name: "a"}, {Name: "b"}, {Name: "b1", Parent: 2}, {Name: "a1", Parent: 1}, {Name: "b2", Parent: 2}, {Name: "a2", Parent: 1}}}},
		Columns: []api.Column{
			{Name: "id", Kind: api.ColumnId},
			{Name: "x", Kind: api.ColumnMeasure, Low: low, High: low + 12, Widths: []int{1, 2, 6}, Optional: r.Intn(2) == 0},
			{Name: "area", Kind: api.ColumnCode, List: 0},
			{Name: "y", Kind: api.ColumnMeasure, Low: low + 5, High: low + 8, Widths: []int{1, 3, 9}},
			{Name: "mixed", Kind: api.ColumnCode, List: 1},
		},
	}
}

// values returns all values that a row can have at a column, ascending.
func values(s api.Schema, column int) []int {
	row := []int{1, s.Columns[1].Low, 3, s.Columns[3].Low, 3}
	var l []int
	for _, v := range append([]int{api.Missing}, numbers(-5, 20)...) {
		row[column] = v
		if schema.Row(s, row) == api.OK {
			l = append(l, v)
		}
	}
	return l
}

func numbers(from, to int) []int {
	var l []int
	for ; from <= to; from++ {
		l = append(l, from)
	}
	return l
}

func random(r *rand.Rand, name string) api.Question {
	a, b, c := r.Intn(20)-4, r.Intn(20)-4, r.Intn(20)-4
	filter := []api.Cond{all(), under(2, r.Intn(6)), under(4, r.Intn(7)), between(1, min(a, b), max(a, b)), between(3, min(a, b), max(a, b)), {Op: api.CondOr, Kids: []api.Cond{between(1, c, c), between(1, min(a, b), max(a, b))}}}[r.Intn(6)]
	switch r.Intn(5) {
	case 0:
		return table(name, []int{1, 3}[r.Intn(2)], filter, 2, r.Intn(3))
	case 1:
		return api.Question{Name: name, Kind: api.AskModel, Filter: filter, Measure: 1, Terms: []int{3}}
	}
	return table(name, -1, filter, 2, r.Intn(3), 4, r.Intn(3))
}

// witness finds what Witness has to return by trying all questions and values.
func witness(s api.Schema, d api.Declaration, column int) string {
	l, _ := minimise.Plan(s, d)
	for _, p := range l {
		for number, q := range d.Questions {
			for _, a := range values(s, column) {
				for _, b := range values(s, column) {
					if p.Column == column && a < b && schema.Coarse(s, column, p.Level-1, a) == schema.Coarse(s, column, p.Level-1, b) && questions.Tells(s, q, column, a, b) {
						return fmt.Sprint(a, b, number, true)
					}
				}
			}
		}
	}
	return fmt.Sprint(0, 0, 0, false)
}

// TestWitness is about P10.3, by trying all values, and about what follows: each column of Plan has a witness.
func TestWitness(t *testing.T) {
	r := rand.New(rand.NewSource(6))
	for range 150 {
		s := tiny(r)
		d := project(random(r, "a"), random(r, "b"))
		l, e := minimise.Plan(s, d)
		want(t, "right", e, api.OK)
		for column := -1; column < 6; column++ {
			a, b, question, found := minimise.Witness(s, d, column)
			should := fmt.Sprint(0, 0, 0, false)
			if column > 0 && column < 5 {
				should = witness(s, d, column)
			}
			want(t, fmt.Sprintf("%+v column %d", d, column), fmt.Sprint(a, b, question, found), should)
			for _, p := range l {
				want(t, "found", found || p.Column != column, true)
			}
		}
	}
}

// TestWitnessOfLargeColumns is about P10.3: the least values are found in columns that are too large to be tried.
func TestWitnessOfLargeColumns(t *testing.T) {
	s := example.Schema()
	s.Columns[3] = api.Column{Name: "age", Kind: api.ColumnMeasure, Low: -999999, High: api.MaxMeasure, Widths: []int{1, 2, 1000}}
	s.Columns[4].Low, s.Columns[4].High, s.Columns[4].Optional = -api.MaxMeasure, api.MaxMeasure, true
	model := api.Question{Name: "m", Kind: api.AskModel, Filter: all(), Measure: 3, Terms: []int{5}}
	for _, c := range []struct {
		column int
		l      []api.Question
		want   string
	}{
		{3, []api.Question{model}, "-999998 -999997 0 true"},
		{5, []api.Question{model}, "0 1 0 true"},
		{3, []api.Question{table("a", -1, between(3, 12345, 23456), 1, 1)}, "12344 12345 0 true"},
		{3, []api.Question{table("a", -1, between(3, 12346, 23456), 1, 1)}, "23456 23457 0 true"},
		{3, []api.Question{table("a", -1, between(3, 12346, 23457), 1, 1)}, "12000 12346 0 true"},
		{3, []api.Question{table("a", -1, between(3, -1000000, -998001), 1, 1)}, "-999999 -998000 0 true"},
		{4, []api.Question{table("a", -1, between(4, 50, 99), 1, 1)}, "0 50 0 true"},
		{4, []api.Question{table("a", -1, between(4, 100, 199), 1, 1)}, fmt.Sprint(api.Missing, -api.MaxMeasure, 0, true)},
		{4, []api.Question{table("a", -1, between(4, 100, 199), 1, 1), table("b", 4, all(), 1, 1)}, fmt.Sprint(-api.MaxMeasure, -api.MaxMeasure+1, 1, true)},
		{1, []api.Question{table("a", -1, all(), 1, 1), table("b", -1, all(), 1, 2)}, "3 4 1 true"},
		{1, []api.Question{table("a", -1, under(1, 5), 1, 0)}, "3 5 0 true"},
		{1, []api.Question{table("a", -1, all(), 1, 0)}, "0 0 0 false"},
	} {
		a, b, question, found := minimise.Witness(s, project(c.l...), c.column)
		want(t, fmt.Sprintf("%+v", c.l), fmt.Sprint(a, b, question, found), c.want)
	}
	a, b, question, found := minimise.Witness(s, api.Declaration{}, 1)
	want(t, "not right", fmt.Sprint(a, b, question, found), "0 0 0 false")
	s.Columns[1].Name = "person"
	a, b, question, found = minimise.Witness(s, project(model), 3)
	want(t, "a wrong schema", fmt.Sprint(a, b, question, found), "0 0 0 false")
}

// TestWithin is about P10.4.
func TestWithin(t *testing.T) {
	for _, c := range []struct {
		a, b []api.Pick
		is   bool
	}{
		{nil, nil, true}, {nil, example.Picks(1, 1), true}, {example.Picks(1, 1), nil, false},
		{example.Picks(1, 1), example.Picks(1, 1), true}, {example.Picks(1, 1), example.Picks(1, 2), true}, {example.Picks(1, 2), example.Picks(1, 1), false},
		{example.Picks(1, 0), nil, false}, {example.Picks(1, 0), example.Picks(2, 3), false}, {example.Picks(1, 0), example.Picks(1, 0), true},
		{example.Picks(3, 1, 1, 1), example.Picks(1, 1, 2, 0, 3, 1), true}, {example.Picks(1, 1, 1, 2), example.Picks(1, 1, 1, 3), true}, {example.Picks(-5, 9), example.Picks(-5, 9), true}, {example.Picks(1, 1, 3, 1), example.Picks(1, 1, 3, 0), false},
	} {
		want(t, fmt.Sprint(c.a, c.b), minimise.Within(c.a, c.b), c.is)
	}
}

// TestLeast is about P10.1: a plan suffices, and lies within each list of picks that suffices.
func TestLeast(t *testing.T) {
	r := rand.New(rand.NewSource(8))
	for range 100 {
		s := tiny(r)
		d := project(random(r, "a"), random(r, "b"), random(r, "c"))
		plan, _ := minimise.Plan(s, d)
		want(t, "it suffices", minimise.Check(s, d, plan), api.OK)
		for range 20 {
			var l []api.Pick
			for column := 1; column < 5; column++ {
				if r.Intn(4) > 0 {
					l = append(l, api.Pick{Column: column, Level: r.Intn(schema.Finest(s, column) + 1)})
				}
			}
			want(t, fmt.Sprint(plan, l), minimise.Check(s, d, l) == api.OK, minimise.Within(plan, l))
		}
	}
}
