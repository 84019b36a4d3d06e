package example

import "dataenclave/api"

// SmallSchema has a space of four cells: two areas and two sexes.
func SmallSchema() api.Schema {
	return api.Schema{
		Lists: []api.CodeList{
			{Name: "areas", Codes: []api.Code{{Name: "land", Parent: -1}, {Name: "a"}, {Name: "b"}}},
			{Name: "sexes", Codes: []api.Code{{Name: "any", Parent: -1}, {Name: "f"}, {Name: "m"}}},
		},
		Columns: []api.Column{
			{Name: "person", Kind: api.ColumnId},
			{Name: "area", Kind: api.ColumnCode, List: 0},
			{Name: "sex", Kind: api.ColumnCode, List: 1},
			{Name: "age", Kind: api.ColumnMeasure, High: 99, Widths: []int{1, 10}},
			{Name: "income", Kind: api.ColumnMeasure, High: 999, Widths: []int{1}, Optional: true},
		},
	}
}

// People has the persons 1 and 2 of a and f, 3 to 8 of a and m, and 9 to 14 of b and f.
func People() api.Source {
	s := api.Source{Schema: SmallSchema()}
	for i, n := range []int{2, 6, 6} {
		for range n {
			id := len(s.Rows) + 1
			s.Rows = append(s.Rows, []int{id, 1 + i/2, 1 + i%2, 20 + id, 100})
		}
	}
	s.Rows[0][4] = api.Missing
	return s
}

// Declared is the text of a declaration, of six lines, that needs all columns of SmallSchema.
func Declared(project, cohort, sample string) string {
	return "project " + project + "\nsource people\ncohort " + cohort + "\nsample " + sample + " seed 3\ntable q by area/1 sex/1 sum age where all\nmodel r of income on age where all\n"
}

// Start is a script: a project p of cyd, and two checkers on duty.
func Start() string {
	return "time 5\napprove p cyd 0 900\nshift ann 0 800\nshift bob 0 800\nshift cyd 0 800\ndeclare 77 6\n" + Declared("p", "all", "1 of 1")
}
