package extract_test

import (
	"fmt"
	"math"
	"slices"
	"sort"
	"testing"

	"dataenclave/api"
	"dataenclave/condition"
	"dataenclave/example"
	"dataenclave/extract"
	"dataenclave/minimise"
	"dataenclave/pseudonym"
	"dataenclave/sample"
	"dataenclave/schema"
)

func want(t *testing.T, name string, got, want any) {
	t.Helper()
	if fmt.Sprintf("%+v", got) != fmt.Sprintf("%+v", want) {
		t.Errorf("%s: got %+v, want %+v", name, got, want)
	}
}

const secret = 987654321987

func people() api.Source {
	return api.Source{Schema: example.Schema(), Rows: example.Rows(), Gone: []int{4, 600}, Version: 3}
}

func with(change func(s *api.Source, d *api.Declaration)) (api.Source, api.Declaration) {
	s, d := people(), example.Declaration()
	change(&s, &d)
	return s, d
}

// TestOwners is about P13.1.
func TestOwners(t *testing.T) {
	want(t, "of the example", extract.Owners(people(), example.Declaration()), []int{1, 2, 3, 5, 8, 9, 12, 31, 700})
	for seed := range 20 {
		s, d := with(func(s *api.Source, d *api.Declaration) { d.Sample = api.Sample{Part: 2, Of: 5, Seed: seed} })
		var l []int
		for _, row := range s.Rows {
			if condition.Eval(s.Schema, d.Cohort, row) == api.True && sample.In(d.Sample, row[0]) {
				l = append(l, row[0])
			}
		}
		want(t, fmt.Sprint("a sample of seed ", seed), extract.Owners(s, d), l)
	}
	s, d := with(func(s *api.Source, d *api.Declaration) {
		d.Cohort = api.Cond{Op: api.CondBetween, Column: example.Income, Low: -500, High: 1000}
	})
	want(t, "unknown is not true", extract.Owners(s, d), []int{2, 5, 9, 30})
	s, d = with(func(s *api.Source, d *api.Declaration) { s.Version = -1 })
	want(t, "no source", extract.Owners(s, d), []int{})
	s, d = with(func(s *api.Source, d *api.Declaration) { d.Questions = nil })
	want(t, "no declaration", extract.Owners(s, d), []int{})
}

// built makes the extract in another way: row by row of the source.
func built(s api.Source, d api.Declaration, picks []api.Pick) api.Extract {
	x := api.Extract{Project: d.Project, Version: s.Version, Picks: picks}
	for _, row := range s.Rows {
		if condition.Eval(s.Schema, d.Cohort, row) != api.True || !sample.In(d.Sample, row[0]) {
			continue
		}
		l := []int{pseudonym.Key(secret, row[0])}
		for _, p := range picks {
			l = append(l, schema.Coarse(s.Schema, p.Column, p.Level, row[p.Column]))
		}
		x.Rows = append(x.Rows, l)
	}
	sort.Slice(x.Rows, func(i, k int) bool { return x.Rows[i][0] < x.Rows[k][0] })
	return x
}

// TestBuild is about P13.2.
func TestBuild(t *testing.T) {
	s, d := people(), example.Declaration()
	least, _ := minimise.Plan(s.Schema, d)
	for _, picks := range [][]api.Pick{least, example.Picks(1, 2, 2, 1, 3, 3, 4, 2, 5, 2, 6, 2)} {
		x, e := extract.Build(s, d, picks, secret)
		want(t, "error", e, api.OK)
		want(t, fmt.Sprint("extract ", picks), x, built(s, d, picks))
		want(t, "it is right", extract.Check(s.Schema, x), api.OK)
	}
	d.Sample = api.Sample{Part: 1, Of: 2, Seed: 3}
	x, _ := extract.Build(s, d, least, secret)
	want(t, "a sample", x, built(s, d, least))
	other, _ := extract.Build(s, d, least, secret+1)
	want(t, "other keys for another secret", fmt.Sprint(other.Rows) != fmt.Sprint(x.Rows), true)
	d.Questions = []api.Question{{Name: "q", Kind: api.AskTable, Filter: api.Cond{Op: api.CondAll}, Dims: example.Picks(1, 0), Measure: -1}}
	x, e := extract.Build(s, d, nil, 0)
	want(t, "without picks", fmt.Sprint(len(x.Rows), len(x.Rows[0]), e), fmt.Sprint(len(extract.Owners(s, d)), 1, api.OK))
}

// TestBuildErrors is about P13.2: errors, of which the first one counts.
func TestBuildErrors(t *testing.T) {
	s, d := people(), example.Declaration()
	least, _ := minimise.Plan(s.Schema, d)
	bad, none := with(func(s *api.Source, d *api.Declaration) { s.Gone, d.Questions = []int{1}, nil })
	for _, c := range []struct {
		name   string
		s      api.Source
		d      api.Declaration
		picks  []api.Pick
		secret int
		e      api.Errno
	}{
		{"the source first", bad, none, nil, -1, api.ErrVersion},
		{"the declaration", s, none, nil, -1, api.ErrLimit},
		{"the picks", s, d, example.Picks(1, 9), -1, api.ErrLevel},
		{"picks that do not suffice", s, d, least[1:], -1, api.ErrPlan},
		{"a secret below 0", s, d, least, -1, api.ErrRange},
		{"a secret too great", s, d, least, 1 << 60, api.ErrRange},
		{"the greatest secret", s, d, least, 1<<60 - 1, api.OK},
		{"the least secret", s, d, least, 0, api.OK},
	} {
		x, e := extract.Build(c.s, c.d, c.picks, c.secret)
		want(t, c.name, e, c.e)
		if e != api.OK {
			want(t, c.name, x, api.Extract{})
		}
	}
}

// TestOnlyPicksMatter is about P13.2: whatever else a source contains does not matter.
func TestOnlyPicksMatter(t *testing.T) {
	s, d := people(), example.Declaration()
	least, _ := minimise.Plan(s.Schema, d)
	x, _ := extract.Build(s, d, least, secret)
	s.Rows[0][example.Area] = 4 // another code below the same one
	s.Rows = append(s.Rows, []int{701, 3, 1, 9, 1, 1, 3})
	y, e := extract.Build(s, d, least, secret)
	want(t, "extract", fmt.Sprintf("%v %v", y, e), fmt.Sprintf("%v %v", x, api.OK))
}

func some() api.Extract {
	return api.Extract{Project: "p", Version: 2, Picks: example.Picks(1, 1, 3, 2, 4, 1), Rows: [][]int{{0, 1, 0, api.Missing}, {7, 2, 95, -500}, {api.MaxId, 1, 5, 5000}}}
}

// TestCheck is about P13.3.
func TestCheck(t *testing.T) {
	type x = api.Extract
	row := func(n int, l ...int) func(e *x) { return func(e *x) { e.Rows[n] = l } }
	many := func(n int) func(e *x) {
		return func(e *x) {
			e.Picks, e.Rows = nil, nil
			for i := range n {
				e.Rows = append(e.Rows, []int{i})
			}
		}
	}
	for i, c := range []struct {
		change func(e *x)
		e      api.Errno
	}{
		{func(e *x) {}, api.OK},
		{func(e *x) { e.Project, e.Version = "on", -1 }, api.ErrName},
		{func(e *x) { e.Version, e.Picks = -1, example.Picks(9, 9) }, api.ErrVersion},
		{func(e *x) { e.Version = api.MaxEdits + 1 }, api.ErrVersion},
		{func(e *x) { e.Version = api.MaxEdits }, api.OK},
		{func(e *x) { e.Version = 0 }, api.OK},
		{func(e *x) { e.Picks = example.Picks(1, 1, 3, 2, 4, 3) }, api.ErrLevel},
		{func(e *x) { e.Picks = example.Picks(1, 1, 4, 1, 3, 2) }, api.ErrDuplicate},
		{many(200), api.OK},
		{many(201), api.ErrLimit},
		{func(e *x) { many(201)(e); e.Rows[0] = nil }, api.ErrLimit},
		{row(0), api.ErrRow}, {row(0, 0, 1, 0), api.ErrRow}, {row(0, 0, 1, 0, 0, 0), api.ErrRow},
		{row(0, -1, 1, 0, 0), api.ErrRow}, {row(2, api.MaxId+1, 1, 0, 0), api.ErrRow},
		{row(0, 0, 3, 0, 0), api.ErrRow}, {row(0, 0, 0, 0, 0), api.ErrRow}, {row(0, 0, -1, 0, 0), api.ErrRow},
		{row(0, 0, 1, 3, 0), api.ErrRow}, {row(0, 0, 1, 100, 0), api.ErrRow}, {row(0, 0, 1, -5, 0), api.ErrRow}, {row(0, 0, 1, api.Missing, 0), api.ErrRow},
		{row(0, 0, 1, 0, 50), api.ErrRow}, {row(0, 0, 1, 0, 5100), api.ErrRow}, {row(0, 0, 1, 0, math.MaxInt), api.ErrRow}, {row(0, 0, 1, 0, math.MinInt), api.ErrRow},
		{row(1, 0, 2, 95, 0), api.ErrDuplicate},
		{func(e *x) { e.Rows[0], e.Rows[1] = e.Rows[1], e.Rows[0] }, api.ErrDuplicate},
		{func(e *x) { row(1, 0, 2, 95, 0)(e); e.Rows[2] = nil }, api.ErrDuplicate},
		{func(e *x) { row(1, 0, 2, 96, 0)(e) }, api.ErrRow},
		{func(e *x) { e.Rows = nil }, api.OK},
	} {
		e := some()
		c.change(&e)
		want(t, fmt.Sprint(i), extract.Check(example.Schema(), e), c.e)
	}
	s := example.Schema()
	s.Columns[1].Name = "person"
	want(t, "a wrong schema first", extract.Check(s, x{}), api.ErrDuplicate)
}

// TestValue is about P13.3.
func TestValue(t *testing.T) {
	s := example.Schema()
	for _, c := range []struct {
		row, column, level, value int
		ok                        bool
	}{
		{0, 1, 1, 1, true}, {0, 1, 0, 0, true}, {0, 1, 2, 0, false}, {1, 1, 2, 5, true},
		{1, 3, 2, 95, true}, {1, 3, 1, 80, true}, {1, 3, 0, 0, true}, {1, 3, 3, 0, false},
		{0, 4, 1, api.Missing, true}, {0, 4, 2, api.Missing, true}, {0, 4, 0, 0, true}, {1, 4, 2, 0, false}, {2, 4, 2, 5000, true},
		{0, 2, 0, 0, true}, {0, 2, 1, 0, false}, {0, 5, 0, 0, true}, {0, 5, 1, 0, false},
		{0, 0, 0, 0, false}, {0, 7, 0, 0, false}, {0, -1, 0, 0, false}, {0, 1, 3, 0, false}, {0, 1, -1, 0, false},
		{-1, 1, 1, 0, false}, {3, 1, 1, 0, false}, {math.MinInt, 1, 1, 0, false}, {math.MaxInt, math.MaxInt, math.MaxInt, 0, false},
	} {
		v, ok := extract.Value(s, some(), c.row, c.column, c.level)
		want(t, fmt.Sprintf("%+v", c), fmt.Sprint(v, ok), fmt.Sprint(c.value, c.ok))
	}
	single := example.Schema()
	single.Columns[5].Low, single.Columns[5].High = 9, 9
	x := some()
	v, ok := extract.Value(single, x, 0, 5, 2)
	want(t, "all values that are no pick are the same", fmt.Sprint(v, ok), "9 true")
	x.Project = ""
	v, ok = extract.Value(s, x, 0, 1, 1)
	want(t, "not right", fmt.Sprint(v, ok), "0 false")
}

// TestNarrow is about P13.4.
func TestNarrow(t *testing.T) {
	x := some()
	for _, c := range []struct {
		keys []int
		rows []int
	}{{nil, nil}, {[]int{7}, []int{1}}, {[]int{api.MaxId, 7, 7, 3, 0}, []int{0, 1, 2}}, {[]int{-1, 1}, nil}} {
		y := extract.Narrow(x, c.keys)
		rows := x.Rows
		x.Rows = nil
		for _, n := range c.rows {
			x.Rows = append(x.Rows, rows[n])
		}
		want(t, fmt.Sprint(c.keys), y, x)
		x.Rows = rows
	}
	odd := api.Extract{Version: -5, Rows: [][]int{{}, {3, 1}, nil, {2}, {3}}}
	want(t, "of any extract", extract.Narrow(odd, []int{3, 0}), api.Extract{Version: -5, Rows: [][]int{{3, 1}, {3}}})
	want(t, "it stays", fmt.Sprint(odd.Rows), fmt.Sprint([][]int{{}, {3, 1}, nil, {2}, {3}}))
}

// TestArgumentsStay is about the rule R2.
func TestArgumentsStay(t *testing.T) {
	s, d := people(), example.Declaration()
	least, _ := minimise.Plan(s.Schema, d)
	picks := slices.Clone(least)
	extract.Build(s, d, picks, secret)
	want(t, "source", s, people())
	want(t, "declaration", d, example.Declaration())
	want(t, "picks", picks, least)
}
