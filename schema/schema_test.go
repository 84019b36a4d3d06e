package schema_test

import (
	"fmt"
	"math"
	"slices"
	"strings"
	"testing"

	"dataenclave/api"
	"dataenclave/example"
	"dataenclave/schema"
)

func want(t *testing.T, name string, got, want any) {
	t.Helper()
	if fmt.Sprintf("%+v", got) != fmt.Sprintf("%+v", want) {
		t.Errorf("%s: got %+v, want %+v", name, got, want)
	}
}

// with is the example's schema, changed.
func with(change func(s *api.Schema)) api.Schema {
	s := example.Schema()
	change(&s)
	return s
}

// measured is the example's schema with another measure in the place of age.
func measured(c api.Column) api.Schema {
	c.Name, c.Kind = "age", api.ColumnMeasure
	return with(func(s *api.Schema) { s.Columns[3] = c })
}

func wrong() api.Schema {
	return with(func(s *api.Schema) { s.Columns[6].Name = "to" })
}

// many makes n columns: an id, and measures behind it.
func many(n int) []api.Column {
	l := []api.Column{{Name: "id", Kind: api.ColumnId}}
	for i := 1; i < n; i++ {
		l = append(l, api.Column{Name: fmt.Sprintf("m%d", i), Kind: api.ColumnMeasure, Widths: []int{1}})
	}
	return l
}

func lists(n int) []api.CodeList {
	var l []api.CodeList
	for i := range n {
		l = append(l, api.CodeList{Name: fmt.Sprintf("l%d", i), Codes: []api.Code{{Name: "r", Parent: -1}}})
	}
	return l
}

// TestCheck is about P2.1: errors of lists, and of columns without regard to their kinds.
func TestCheck(t *testing.T) {
	for _, c := range []struct {
		name string
		s    api.Schema
		e    api.Errno
	}{
		{"the example", example.Schema(), api.OK},
		{"an id alone", api.Schema{Columns: many(1)}, api.OK},
		{"nothing", api.Schema{}, api.ErrColumn},
		{"all lists", api.Schema{Lists: lists(api.MaxLists), Columns: many(1)}, api.OK},
		{"a list too many", api.Schema{Lists: lists(api.MaxLists + 1), Columns: many(1)}, api.ErrLimit},
		{"all columns", api.Schema{Columns: many(api.MaxColumns)}, api.OK},
		{"a column too many", api.Schema{Columns: many(api.MaxColumns + 1)}, api.ErrLimit},
		{"a wrong list", with(func(s *api.Schema) { s.Lists[1].Codes[1].Parent = 1 }), api.ErrCode},
		{"a list twice", with(func(s *api.Schema) { s.Lists[2].Name = "areas" }), api.ErrDuplicate},
		{"no id first", with(func(s *api.Schema) { s.Columns = s.Columns[1:] }), api.ErrColumn},
		{"a name", with(func(s *api.Schema) { s.Columns[2].Name = "Sex" }), api.ErrName},
		{"the name of the id", with(func(s *api.Schema) { s.Columns[0].Name = "" }), api.ErrName},
		{"a name twice", with(func(s *api.Schema) { s.Columns[5].Name = "person" }), api.ErrDuplicate},
		{"no kind", with(func(s *api.Schema) { s.Columns[2].Kind = 4 }), api.ErrKind},
		{"the kind zero", with(func(s *api.Schema) { s.Columns[2].Kind = 0 }), api.ErrKind},
		{"a second id", with(func(s *api.Schema) { s.Columns[2] = api.Column{Name: "q", Kind: api.ColumnId} }), api.ErrKind},
		{"no list", with(func(s *api.Schema) { s.Columns[2].List = 3 }), api.ErrList},
		{"a list below 0", with(func(s *api.Schema) { s.Columns[2].List = -1 }), api.ErrList},
	} {
		want(t, c.name, schema.Check(c.s), c.e)
	}
}

// TestCheckMeasure is about P2.1: limits and widths of measures.
func TestCheckMeasure(t *testing.T) {
	const most = api.MaxMeasure
	for _, c := range []struct {
		c api.Column
		e api.Errno
	}{
		{api.Column{Low: -most, High: most, Widths: []int{1}}, api.OK},
		{api.Column{Low: 5, High: 5, Widths: []int{1, 2, 4, most}}, api.OK},
		{api.Column{Low: -most - 1, High: most, Widths: []int{1}}, api.ErrRange},
		{api.Column{Low: -most, High: most + 1, Widths: []int{1}}, api.ErrRange},
		{api.Column{Low: math.MinInt, High: math.MaxInt, Widths: []int{1}}, api.ErrRange},
		{api.Column{Low: most + 1, High: most + 1, Widths: []int{1}}, api.ErrRange},
		{api.Column{Low: 1, High: 0, Widths: []int{1}}, api.ErrRange},
		{api.Column{Low: 0, High: 9}, api.ErrLimit},
		{api.Column{Low: 0, High: 9, Widths: []int{1, 2, 4, 8, 16}}, api.ErrLimit},
		{api.Column{Low: 0, High: 9, Widths: []int{2, 4}}, api.ErrRange},
		{api.Column{Low: 0, High: 9, Widths: []int{0}}, api.ErrRange},
		{api.Column{Low: 0, High: 9, Widths: []int{1, 1}}, api.ErrRange},
		{api.Column{Low: 0, High: 9, Widths: []int{1, 0}}, api.ErrRange},
		{api.Column{Low: 0, High: 9, Widths: []int{1, -2}}, api.ErrRange},
		{api.Column{Low: 0, High: 9, Widths: []int{1, 4, 6}}, api.ErrRange},
		{api.Column{Low: 0, High: 9, Widths: []int{1, 4, 2}}, api.ErrRange},
		{api.Column{Low: 0, High: 9, Widths: []int{1, 4, 8, 0}}, api.ErrRange},
		{api.Column{Low: 0, High: 9, Widths: []int{1, 2 * most}}, api.ErrRange},
		{api.Column{Low: 1, High: 0}, api.ErrRange},
		{api.Column{Low: 0, High: 9, Widths: []int{1}, List: 1}, api.ErrForm},
	} {
		want(t, fmt.Sprintf("%+v", c.c), schema.Check(measured(c.c)), c.e)
	}
}

// TestCheckUnused is about P2.1: fields that a kind does not use.
func TestCheckUnused(t *testing.T) {
	for _, column := range []int{0, 2} {
		for i, change := range []func(c *api.Column){
			func(c *api.Column) { c.Low = 1 },
			func(c *api.Column) { c.High = -1 },
			func(c *api.Column) { c.Widths = []int{1} },
			func(c *api.Column) { c.Optional = true },
		} {
			s := with(func(s *api.Schema) { change(&s.Columns[column]) })
			want(t, fmt.Sprint("column ", column, " change ", i), schema.Check(s), api.ErrForm)
		}
	}
	want(t, "the list of an id", schema.Check(with(func(s *api.Schema) { s.Columns[0].List = 1 })), api.ErrForm)
	want(t, "empty widths", schema.Check(with(func(s *api.Schema) { s.Columns[2].Widths = []int{} })), api.OK)
}

// TestCheckOrder is about P2.1: of several errors the first one counts.
func TestCheckOrder(t *testing.T) {
	for _, c := range []struct {
		name string
		s    api.Schema
		e    api.Errno
	}{
		{"columns that are too many before lists", with(func(s *api.Schema) { s.Columns, s.Lists[0].Name = many(9), "" }), api.ErrLimit},
		{"a list before that it is there twice", with(func(s *api.Schema) { s.Lists[1] = s.Lists[0]; s.Lists[1].Codes = nil }), api.ErrList},
		{"a list twice before a later wrong one", with(func(s *api.Schema) { s.Lists[1].Name = "areas"; s.Lists[2].Name = "" }), api.ErrDuplicate},
		{"lists before columns", api.Schema{Lists: []api.CodeList{{Name: "l"}}}, api.ErrList},
		{"the first column before names", with(func(s *api.Schema) { s.Columns[0] = api.Column{Name: "", Kind: 7} }), api.ErrColumn},
		{"twice before the kind", with(func(s *api.Schema) { s.Columns[2] = api.Column{Name: "area", Kind: 7} }), api.ErrDuplicate},
		{"the kind before fields", with(func(s *api.Schema) { s.Columns[2] = api.Column{Name: "x", Kind: 1, Low: 7} }), api.ErrKind},
		{"the list before fields", with(func(s *api.Schema) { s.Columns[2].List = 9; s.Columns[2].Low = 1 }), api.ErrList},
		{"widths before the list", measured(api.Column{List: 1}), api.ErrLimit},
		{"a column before the next one", with(func(s *api.Schema) { s.Columns[1].Low = 1; s.Columns[2].Name = "" }), api.ErrForm},
	} {
		want(t, c.name, schema.Check(c.s), c.e)
	}
}

// TestRow is about P2.2.
func TestRow(t *testing.T) {
	s := example.Schema()
	for _, row := range example.Rows() {
		want(t, "row", schema.Row(s, row), api.OK)
	}
	good := example.Rows()[0]
	for _, c := range []struct {
		column, value int
		e             api.Errno
	}{
		{0, 1, api.OK}, {0, api.MaxId, api.OK}, {0, 0, api.ErrRow}, {0, api.MaxId + 1, api.ErrRow}, {0, -1, api.ErrRow},
		{1, 5, api.OK}, {1, 2, api.ErrRow}, {1, 0, api.ErrRow}, {1, 6, api.ErrRow}, {1, -1, api.ErrRow}, {1, api.Missing, api.ErrRow},
		{3, 0, api.OK}, {3, 99, api.OK}, {3, -1, api.ErrRow}, {3, 100, api.ErrRow}, {3, api.Missing, api.ErrRow},
		{4, -500, api.OK}, {4, -501, api.ErrRow}, {4, api.Missing, api.OK}, {4, api.Missing + 1, api.ErrRow}, {4, math.MinInt, api.ErrRow},
	} {
		row := slices.Clone(good)
		row[c.column] = c.value
		want(t, fmt.Sprint(row), schema.Row(s, row), c.e)
	}
	want(t, "short", schema.Row(s, good[:6]), api.ErrRow)
	want(t, "long", schema.Row(s, append(slices.Clone(good), 0)), api.ErrRow)
	want(t, "empty", schema.Row(s, nil), api.ErrRow)
	want(t, "a wrong schema first", schema.Row(wrong(), nil), api.ErrName)
	want(t, "an empty schema first", schema.Row(api.Schema{}, nil), api.ErrColumn)
}

// TestFindFinest is about P2.3.
func TestFindFinest(t *testing.T) {
	s := example.Schema()
	for i, c := range s.Columns {
		want(t, c.Name, schema.Find(s, c.Name), i)
	}
	want(t, "none", schema.Find(s, "areas"), -1)
	want(t, "none", schema.Find(api.Schema{}, ""), -1)
	for column, finest := range []int{-1, 2, 1, 3, 2, 2, 2, -1} {
		want(t, "finest", schema.Finest(s, column), finest)
	}
	want(t, "no column", schema.Finest(s, -1), -1)
	want(t, "a wrong schema", schema.Finest(wrong(), 1), -1)
}

// TestCoarse is about P2.4, with the example of the chapter.
func TestCoarse(t *testing.T) {
	s := example.Schema()
	age, income := 3, 4
	for _, c := range [][4]int{
		{age, 3, 37, 37}, {age, 2, 37, 35}, {age, 1, 37, 20}, {age, 0, 37, 0},
		{age, 2, -3, -5}, {age, 1, -3, -20}, {age, 3, -3, -3}, {age, 2, -5, -5}, {age, 2, 0, 0},
		{age, 1, 1000, 1000}, {age, 3, api.MaxMeasure, api.MaxMeasure}, {age, 3, -api.MaxMeasure, -api.MaxMeasure},
		{age, 1, api.Missing, api.Missing}, {age, 0, api.Missing, 0}, {income, 2, api.Missing, api.Missing}, {income, 1, -1, -100},
		{age, 3, api.MaxMeasure + 1, -1}, {age, 0, -api.MaxMeasure - 1, -1}, {age, 0, math.MinInt, -1}, {age, 1, math.MaxInt, -1},
		{age, 4, 37, -1}, {age, -1, 37, -1}, {0, 0, 5, -1}, {7, 0, 0, -1}, {-1, 0, 0, -1},
		{1, 2, 4, 4}, {1, 1, 4, 1}, {1, 0, 4, 0}, {1, 1, 5, 2}, {1, 1, 1, -1}, {1, 0, 0, -1}, {1, 0, 6, -1}, {1, 0, -1, -1}, {1, 3, 4, -1}, {1, 0, api.Missing, -1},
	} {
		want(t, fmt.Sprint(c), schema.Coarse(s, c[0], c[1], c[2]), c[3])
	}
	want(t, "a wrong schema", schema.Coarse(wrong(), age, 3, 37), -1)
}

// TestPicks is about P2.5.
func TestPicks(t *testing.T) {
	s := example.Schema()
	for _, c := range []struct {
		column, level int
		e             api.Errno
	}{{1, 0, api.OK}, {1, 2, api.OK}, {1, 3, api.ErrLevel}, {1, -1, api.ErrLevel}, {0, 0, api.ErrColumn}, {7, 0, api.ErrColumn}, {-1, 9, api.ErrColumn}, {3, 3, api.OK}, {3, 4, api.ErrLevel}} {
		want(t, fmt.Sprint(c), schema.Pick(s, api.Pick{Column: c.column, Level: c.level}), c.e)
	}
	for _, c := range []struct {
		l []api.Pick
		e api.Errno
	}{
		{nil, api.OK},
		{example.Picks(1, 0, 2, 1, 6, 2), api.OK},
		{example.Picks(1, 0, 1, 1), api.ErrDuplicate},
		{example.Picks(2, 0, 1, 0), api.ErrDuplicate},
		{example.Picks(2, 0, 1, 9), api.ErrLevel},
		{example.Picks(2, 0, 1, 0, 0, 0), api.ErrDuplicate},
		{example.Picks(2, 9, 1, 0), api.ErrLevel},
	} {
		want(t, fmt.Sprint(c.l), schema.Picks(s, c.l), c.e)
	}
	want(t, "a wrong schema", schema.Pick(wrong(), api.Pick{}), api.ErrName)
	want(t, "a wrong schema", schema.Picks(wrong(), nil), api.ErrName)
}

// values returns all values that a row can have at a column.
func values(s api.Schema, column int) []int {
	var l []int
	row := slices.Clone(example.Rows()[0])
	for v := -600; v <= 5100; v++ {
		row[column] = v
		if schema.Row(s, row) == api.OK {
			l = append(l, v)
		}
	}
	row[column] = api.Missing
	if schema.Row(s, row) == api.OK {
		l = append(l, api.Missing)
	}
	return l
}

// some are schemas with small measures in the place of age, whose limits fall into blocks in several ways.
func some() []api.Schema {
	var l []api.Schema
	for _, c := range []api.Column{
		{Low: 0, High: 99, Widths: []int{1, 5, 20}},
		{Low: 3, High: 3, Widths: []int{1, 2, 4}},
		{Low: 3, High: 3, Widths: []int{1, 2, 4}, Optional: true},
		{Low: 3, High: 4, Widths: []int{1, 2, 4, 8}},
		{Low: 4, High: 6, Widths: []int{1, 2, 6}, Optional: true},
		{Low: -3, High: 2, Widths: []int{1, 3, 12}},
		{Low: -4, High: -2, Widths: []int{1, 3, 12}},
		{Low: 5, High: 30, Widths: []int{1, 100}},
		{Low: -1, High: 0, Widths: []int{1, 100}},
	} {
		l = append(l, measured(c))
	}
	return l
}

// divides reports whether any two of some values that differ at one level differ at another one, too.
func divides(s api.Schema, column int, values []int, level, other int) bool {
	from := map[int]int{}
	for _, v := range values {
		at, its := schema.Coarse(s, column, other, v), schema.Coarse(s, column, level, v)
		if before, ok := from[at]; ok && before != its {
			return false
		}
		from[at] = its
	}
	return true
}

// TestLeast is about P2.6, by trying all values.
func TestLeast(t *testing.T) {
	for i, s := range some() {
		for column := 1; column < 7; column++ {
			if i > 0 && column != 3 {
				continue
			}
			l := values(s, column)
			for level := 0; level <= schema.Finest(s, column); level++ {
				least := 0
				for !divides(s, column, l, level, least) {
					least++
				}
				want(t, fmt.Sprint("schema ", i, " column ", column, " level ", level), schema.Least(s, column, level), least)
			}
		}
	}
	s := example.Schema()
	want(t, "codes that have one code below each", schema.Least(s, 6, 2), 1)
	want(t, "an optional measure", schema.Least(s, 4, 1), 1)
	for _, c := range [][2]int{{0, 0}, {7, 0}, {-1, 0}, {1, -1}, {1, 3}, {3, 4}} {
		want(t, fmt.Sprint("none", c), schema.Least(s, c[0], c[1]), -1)
	}
	want(t, "a wrong schema", schema.Least(wrong(), 1, 1), -1)
}

// turn finds what Turn has to return by trying all values.
func turn(s api.Schema, column, from, value, to int, values []int) (int, bool) {
	found, ok := 0, false
	for _, v := range values {
		if schema.Coarse(s, column, from, v) != value {
			continue
		}
		its := schema.Coarse(s, column, to, v)
		if ok && its != found {
			return 0, false
		}
		found, ok = its, true
	}
	return found, ok
}

// TestTurn is about P2.7, by trying all values.
func TestTurn(t *testing.T) {
	for i, s := range some() {
		for column := 1; column < 7; column++ {
			if i > 0 && column != 3 || column == 4 {
				continue
			}
			l := values(s, column)
			for from := 0; from <= schema.Finest(s, column); from++ {
				for to := 0; to <= schema.Finest(s, column); to++ {
					for _, v := range append([]int{api.Missing, -1, 100, 105}, numbers(-20, 40)...) {
						got, ok := schema.Turn(s, column, from, v, to)
						value, is := turn(s, column, from, v, to, l)
						want(t, fmt.Sprint("schema ", i, " column ", column, " from ", from, " value ", v, " to ", to), fmt.Sprint(got, ok), fmt.Sprint(value, is))
					}
				}
			}
		}
	}
}

func numbers(from, to int) []int {
	var l []int
	for ; from <= to; from++ {
		l = append(l, from)
	}
	return l
}

// TestTurnNamed is about P2.7: single values, and arguments that are none.
func TestTurnNamed(t *testing.T) {
	s := example.Schema()
	for _, c := range []struct {
		column, from, value, to, turned int
		ok                              bool
	}{
		{6, 1, 1, 2, 4, true}, {6, 2, 3, 1, 2, true}, {1, 1, 1, 2, 0, false}, {1, 1, 2, 2, 5, true}, {1, 0, 0, 1, 0, false}, {1, 1, 3, 0, 0, false},
		{3, 1, 80, 2, 0, false}, {3, 2, 35, 1, 20, true}, {3, 0, 0, 0, 0, true}, {3, 0, 1, 0, 0, false},
		{4, 1, 5000, 2, 5000, true}, {4, 1, 5000, 1, 5000, true}, {4, 1, -500, 2, 0, false}, {4, 1, api.Missing, 2, api.Missing, true}, {4, 2, api.Missing, 0, 0, true}, {4, 0, 0, 1, 0, false}, {4, 0, api.Missing, 0, 0, false},
		{5, 1, api.Missing, 1, 0, false}, {3, 1, math.MaxInt, 1, 0, false}, {3, 1, math.MinInt, 1, 0, false}, {3, 1, math.MaxInt - 7, 0, 0, false},
		{3, 4, 0, 0, 0, false}, {3, 0, 0, 4, 0, false}, {3, -1, 0, 0, 0, false}, {3, 0, 0, -1, 0, false}, {0, 0, 0, 0, 0, false}, {7, 0, 0, 0, 0, false}, {-1, 0, 0, 0, 0, false},
	} {
		v, ok := schema.Turn(s, c.column, c.from, c.value, c.to)
		want(t, fmt.Sprintf("%+v", c), fmt.Sprint(v, ok), fmt.Sprint(c.turned, c.ok))
	}
	v, ok := schema.Turn(wrong(), 1, 0, 0, 0)
	want(t, "a wrong schema", fmt.Sprint(v, ok), "0 false")
}

// TestCoarser is about P2.4: a value at a coarser level is a function of that at a finer one.
func TestCoarser(t *testing.T) {
	s := example.Schema()
	for column := 1; column < 7; column++ {
		l := values(s, column)
		for fine := range schema.Finest(s, column) + 1 {
			for coarse := range fine + 1 {
				want(t, strings.Join([]string{s.Columns[column].Name, "coarser"}, " "), divides(s, column, l, coarse, fine), true)
			}
		}
	}
}

// TestArgumentsStay is about the rule R2.
func TestArgumentsStay(t *testing.T) {
	s := example.Schema()
	schema.Check(s)
	schema.Least(s, 3, 2)
	schema.Turn(s, 6, 2, 3, 1)
	want(t, "the schema", s, example.Schema())
}
