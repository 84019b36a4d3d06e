package questions_test

import (
	"fmt"
	"math"
	"math/rand"
	"testing"

	"dataenclave/api"
	"dataenclave/condition"
	"dataenclave/declaration"
	"dataenclave/example"
	"dataenclave/questions"
	"dataenclave/schema"
)

func want(t *testing.T, name string, got, want any) {
	t.Helper()
	if fmt.Sprintf("%+v", got) != fmt.Sprintf("%+v", want) {
		t.Errorf("%s: got %+v, want %+v", name, got, want)
	}
}

func all() api.Cond { return api.Cond{Op: api.CondAll} }

func under(column, code int) api.Cond {
	return api.Cond{Op: api.CondUnder, Column: column, Code: code}
}

func between(column, low, high int) api.Cond {
	return api.Cond{Op: api.CondBetween, Column: column, Low: low, High: high}
}

func and(a, b api.Cond) api.Cond { return api.Cond{Op: api.CondAnd, Kids: []api.Cond{a, b}} }

func table(measure int, filter api.Cond, dims ...int) api.Question {
	return api.Question{Name: "t", Kind: api.AskTable, Filter: filter, Dims: example.Picks(dims...), Measure: measure}
}

func model(filter api.Cond, measure int, terms ...int) api.Question {
	return api.Question{Name: "m", Kind: api.AskModel, Filter: filter, Measure: measure, Terms: terms}
}

func curve(filter, event api.Cond, measure int) api.Question {
	return api.Question{Name: "c", Kind: api.AskCurve, Filter: filter, Event: event, Measure: measure}
}

// tiny has small columns, so that all values can be tried.
func tiny() api.Schema {
	return api.Schema{
		Lists: example.Schema().Lists,
		Columns: []api.Column{
			{Name: "id", Kind: api.ColumnId},
			{Name: "x", Kind: api.ColumnMeasure, Low: 0, High: 9, Widths: []int{1, 2, 6}, Optional: true},
			{Name: "area", Kind: api.ColumnCode, List: 0},
			{Name: "y", Kind: api.ColumnMeasure, Low: 5, High: 8, Widths: []int{1, 3, 9}},
			{Name: "kind", Kind: api.ColumnCode, List: 2},
			{Name: "z", Kind: api.ColumnMeasure, Low: 3, High: 3, Widths: []int{1, 3}},
		},
	}
}

func values(column int) []int {
	switch column {
	case 1:
		return []int{api.Missing, 0, 1, 2, 3, 4, 5, 6, 7, 8, 9}
	case 2:
		return []int{3, 4, 5}
	case 3:
		return []int{5, 6, 7, 8}
	case 4:
		return []int{3, 4}
	}
	return []int{3}
}

// atom is a random condition about a column of tiny.
func atom(r *rand.Rand) api.Cond {
	a, b := r.Intn(12)-1, r.Intn(12)-1
	switch r.Intn(5) {
	case 0:
		return under(2, r.Intn(6))
	case 1:
		return under(4, r.Intn(5))
	case 2:
		return api.Cond{Op: api.CondMissing, Column: 1}
	case 3:
		return between(1, min(a, b), max(a, b))
	}
	return between(3, min(a, b), max(a, b))
}

// asked is a random question about tiny, and its conditions about columns.
func asked(r *rand.Rand) (api.Question, []api.Cond) {
	a, b := atom(r), atom(r)
	switch r.Intn(4) {
	case 0:
		return table([]int{-1, 1, 3, 5}[r.Intn(4)], a, 2, r.Intn(3)), []api.Cond{a}
	case 1:
		return table(-1, and(a, b), 4, r.Intn(3), 2, r.Intn(3)), []api.Cond{a, b}
	case 2:
		terms := [][]int{{1, 3}, {1, 5}, {3, 5}, {5, 3}}[r.Intn(4)]
		return model(a, terms[0], terms[1:]...), []api.Cond{a}
	}
	return curve(a, api.Cond{Op: api.CondNot, Kids: []api.Cond{b}}, []int{1, 3, 5}[r.Intn(3)]), []api.Cond{a, b}
}

// tells finds what Tells has to return: by the conditions for rows, and by values at levels.
func tells(s api.Schema, q api.Question, atoms []api.Cond, column, a, b int) bool {
	row := func(v int) []int {
		l := []int{1, 0, 3, 5, 3, 3}
		l[column] = v
		return l
	}
	for _, c := range atoms {
		if c.Column == column && condition.Eval(s, c, row(a)) != condition.Eval(s, c, row(b)) {
			return true
		}
	}
	for _, d := range q.Dims {
		if d.Column == column && schema.Coarse(s, column, d.Level, a) != schema.Coarse(s, column, d.Level, b) {
			return true
		}
	}
	used := q.Measure == column
	for _, term := range q.Terms {
		used = used || term == column
	}
	return used && a != b
}

// TestByTrying is about P9.1 and P9.2, by trying all values.
func TestByTrying(t *testing.T) {
	r := rand.New(rand.NewSource(9))
	s := tiny()
	for range 250 {
		q, atoms := asked(r)
		want(t, "right", declaration.Question(s, q), api.OK)
		var needs []api.Pick
		for column := 1; column < 6; column++ {
			need := 0
			for _, a := range values(column) {
				for _, b := range values(column) {
					apart := tells(s, q, atoms, column, a, b)
					want(t, fmt.Sprintf("%+v tells %d: %d, %d", q, column, a, b), questions.Tells(s, q, column, a, b), apart)
					for apart && schema.Coarse(s, column, need, a) == schema.Coarse(s, column, need, b) {
						need++
					}
				}
			}
			if need > 0 {
				needs = append(needs, api.Pick{Column: column, Level: need})
			}
		}
		want(t, fmt.Sprintf("needs of %+v", q), questions.Needs(s, q), needs)
	}
}

// TestTellsNothing is about P9.1: values that no row can have, columns that are none, and questions that are not right.
func TestTellsNothing(t *testing.T) {
	s := example.Schema()
	q := model(between(4, 0, 9), 4, 3)
	for _, c := range []struct {
		column, a, b int
		is           bool
	}{
		{4, 0, 5000, true}, {4, api.Missing, 0, true}, {4, api.Missing, api.Missing, false}, {4, 5001, 0, false}, {4, 0, 5001, false}, {4, -501, 0, false},
		{3, 1, 2, true}, {3, api.Missing, 2, false}, {3, 2, api.Missing, false}, {3, 100, 2, false}, {5, 1, 2, false},
		{0, 1, 2, false}, {7, 1, 2, false}, {-1, 1, 2, false}, {1, 3, 4, false}, {4, math.MinInt, math.MaxInt, false},
	} {
		want(t, fmt.Sprint(c), questions.Tells(s, q, c.column, c.a, c.b), c.is)
	}
	leaves := table(-1, all(), 1, 1)
	for _, c := range []struct {
		a, b int
		is   bool
	}{{3, 5, true}, {3, 4, false}, {3, 2, false}, {1, 2, false}, {5, 6, false}, {-1, 3, false}} {
		want(t, fmt.Sprint(c), questions.Tells(s, leaves, 1, c.a, c.b), c.is)
	}
	q.Terms = nil
	want(t, "not right", questions.Tells(s, q, 4, 0, 1), false)
	want(t, "not right", questions.Needs(s, q), []api.Pick{})
	want(t, "not right", questions.Suffice(s, q, example.Picks(3, 3, 4, 2)), false)
	s.Columns[1].Name = "to"
	want(t, "a wrong schema", questions.Tells(s, leaves, 1, 3, 5), false)
	want(t, "a wrong schema", questions.Needs(s, leaves), []api.Pick{})
	want(t, "a wrong schema", questions.Suffice(s, leaves, example.Picks(1, 2)), false)
}

// TestNeeds is about P9.2: questions whose needs are clear, with the example of the chapter.
func TestNeeds(t *testing.T) {
	s := example.Schema()
	for _, c := range []struct {
		q api.Question
		l []api.Pick
	}{
		{table(-1, all(), 6, 2), example.Picks(6, 1)},
		{table(-1, all(), 1, 0), nil},
		{table(4, between(3, 20, 39), 2, 1, 1, 2), example.Picks(1, 2, 2, 1, 3, 1, 4, 2)},
		{table(-1, under(1, 3), 1, 1), example.Picks(1, 2)},
		{table(-1, under(1, 1), 1, 2), example.Picks(1, 2)},
		{model(all(), 5, 3), example.Picks(3, 3, 5, 2)},
		{curve(between(3, 0, 99), between(3, 0, 4), 5), example.Picks(3, 2, 5, 2)},
	} {
		want(t, fmt.Sprintf("%+v", c.q), questions.Needs(s, c.q), c.l)
	}
}

// TestSuffice is about P9.3.
func TestSuffice(t *testing.T) {
	s := example.Schema()
	q := table(-1, between(3, 20, 39), 1, 1)
	for _, c := range []struct {
		picks []api.Pick
		is    bool
	}{
		{example.Picks(1, 1, 3, 1), true}, {example.Picks(1, 2, 2, 0, 3, 3), true},
		{example.Picks(1, 1, 3, 0), false}, {example.Picks(1, 0, 3, 1), false}, {example.Picks(1, 1), false}, {example.Picks(3, 1), false}, {nil, false},
		{example.Picks(3, 1, 1, 1), false}, {example.Picks(1, 1, 3, 4), false}, {example.Picks(1, 1, 1, 1, 3, 1), false}, {example.Picks(0, 0, 1, 1, 3, 1), false},
	} {
		want(t, fmt.Sprint(c.picks), questions.Suffice(s, q, c.picks), c.is)
	}
	nothing := table(-1, all(), 1, 0)
	want(t, "nothing is needed", questions.Suffice(s, nothing, nil), true)
	want(t, "nothing is needed, but picks have to be right", questions.Suffice(s, nothing, example.Picks(9, 9)), false)
}

// TestOneLevelCoarser is about P9.2: one level below a need two values are the same that are told apart, at the need none are.
func TestOneLevelCoarser(t *testing.T) {
	s := tiny()
	r := rand.New(rand.NewSource(4))
	for range 100 {
		q, _ := asked(r)
		for _, p := range questions.Needs(s, q) {
			below, at := false, false
			for _, a := range values(p.Column) {
				for _, b := range values(p.Column) {
					apart := questions.Tells(s, q, p.Column, a, b)
					below = below || apart && schema.Coarse(s, p.Column, p.Level-1, a) == schema.Coarse(s, p.Column, p.Level-1, b)
					at = at || apart && schema.Coarse(s, p.Column, p.Level, a) == schema.Coarse(s, p.Column, p.Level, b)
				}
			}
			want(t, fmt.Sprintf("%+v %+v", q, p), fmt.Sprint(below, at), "true false")
		}
	}
}
