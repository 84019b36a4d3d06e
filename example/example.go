// Package example contains a small schema with its rows, on which the examples and the tests of several layers agree.
package example

import "dataenclave/api"

// The columns of Schema.
const (
	Area   = 1
	Sex    = 2
	Age    = 3
	Income = 4
	Weeks  = 5
	Kind   = 6
)

// Schema has code lists of three levels, of two, and one whose last level divides as the one above it does; and measures with and without missing values.
func Schema() api.Schema {
	return api.Schema{
		Lists: []api.CodeList{
			{Name: "areas", Codes: []api.Code{{Name: "land", Parent: -1}, {Name: "north"}, {Name: "south"}, {Name: "a", Parent: 1}, {Name: "b", Parent: 1}, {Name: "c", Parent: 2}}},
			{Name: "sexes", Codes: []api.Code{{Name: "any", Parent: -1}, {Name: "f"}, {Name: "m"}}},
			{Name: "kinds", Codes: []api.Code{{Name: "k", Parent: -1}, {Name: "k1"}, {Name: "k2"}, {Name: "l2", Parent: 2}, {Name: "l1", Parent: 1}}},
		},
		Columns: []api.Column{
			{Name: "person", Kind: api.ColumnId},
			{Name: "area", Kind: api.ColumnCode, List: 0},
			{Name: "sex", Kind: api.ColumnCode, List: 1},
			{Name: "age", Kind: api.ColumnMeasure, Low: 0, High: 99, Widths: []int{1, 5, 20}},
			{Name: "income", Kind: api.ColumnMeasure, Low: -500, High: 5000, Widths: []int{1, 100}, Optional: true},
			{Name: "weeks", Kind: api.ColumnMeasure, Low: 0, High: 60, Widths: []int{1, 4}},
			{Name: "kind", Kind: api.ColumnCode, List: 2},
		},
	}
}

// Rows returns rows that fit Schema, ascending by person.
func Rows() [][]int {
	return [][]int{
		{1, 3, 1, 34, 1200, 10, 3},
		{2, 3, 2, 41, -50, 22, 4},
		{3, 4, 1, 19, api.Missing, 5, 3},
		{5, 4, 2, 67, 900, 60, 4},
		{8, 5, 1, 20, 2500, 13, 4},
		{9, 5, 2, 39, 0, 22, 3},
		{12, 3, 1, 99, 5000, 0, 4},
		{30, 4, 1, 0, 310, 31, 3},
		{31, 5, 2, 59, api.Missing, 8, 3},
		{700, 3, 2, 40, 1200, 10, 4},
	}
}

// Picks makes picks of columns and levels, by turns.
func Picks(l ...int) []api.Pick {
	var picks []api.Pick
	for i := 0; i+1 < len(l); i += 2 {
		picks = append(picks, api.Pick{Column: l[i], Level: l[i+1]})
	}
	return picks
}

// Declaration has a question of each kind about Schema, and takes all persons who are at least 10 years old.
func Declaration() api.Declaration {
	all := api.Cond{Op: api.CondAll}
	return api.Declaration{
		Project: "trial",
		Source:  "people",
		Cohort:  api.Cond{Op: api.CondBetween, Column: Age, Low: 10, High: 99},
		Sample:  api.Sample{Part: 1, Of: 1, Seed: 7},
		Questions: []api.Question{
			{Name: "counts", Kind: api.AskTable, Filter: all, Dims: Picks(Area, 1, Sex, 1), Measure: -1},
			{Name: "sums", Kind: api.AskTable, Filter: api.Cond{Op: api.CondUnder, Column: Sex, Code: 1}, Dims: Picks(Kind, 2), Measure: Income},
			{Name: "line", Kind: api.AskModel, Filter: api.Cond{Op: api.CondNot, Kids: []api.Cond{{Op: api.CondMissing, Column: Income}}}, Measure: Income, Terms: []int{Age, Weeks}},
			{Name: "stay", Kind: api.AskCurve, Filter: all, Measure: Weeks, Event: api.Cond{Op: api.CondBetween, Column: Age, Low: 40, High: 99}},
		},
	}
}

// Text is a program for Schema with each kind of expression.
const Text = `let young = count(age from 0 to 39)
out all_people = (young + count(not age from 0 to 39))
let pay = sum(income; sex under f)
out pay_mean = (pay / (2 * mean(weeks; all)))
out rest = ((all_people - 3) - -7)
out by_area = table(area/1, sex/1; income; all)
out by_kind = table(kind/2; -; (area under north or age from 20 to 39))
out line = model(income; age, weeks; not income missing)
out stay = curve(weeks; age from 40 to 99; all)
let pays = hist(income; 100; all)
out ages = box(age; sex under m)
`

// Extract has all rows at the finest levels, with the persons' numbers as keys.
func Extract() api.Extract {
	x := api.Extract{Project: "trial", Version: 1, Picks: Picks(Area, 2, Sex, 1, Age, 3, Income, 2, Weeks, 2, Kind, 2)}
	x.Rows = append(x.Rows, Rows()...)
	return x
}
