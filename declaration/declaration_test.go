package declaration_test

import (
	"fmt"
	"strings"
	"testing"

	"dataenclave/api"
	"dataenclave/declaration"
	"dataenclave/example"
)

func want(t *testing.T, name string, got, want any) {
	t.Helper()
	if fmt.Sprintf("%+v", got) != fmt.Sprintf("%+v", want) {
		t.Errorf("%s: got %+v, want %+v", name, got, want)
	}
}

func all() api.Cond { return api.Cond{Op: api.CondAll} }

func wrongSchema() api.Schema {
	s := example.Schema()
	s.Columns[1].Name = "person"
	return s
}

// negative has a column weeks that can be less than 0.
func negative() api.Schema {
	s := example.Schema()
	s.Columns[example.Weeks].Low = -1
	return s
}

func table(change func(q *api.Question)) api.Question {
	q := api.Question{Name: "t", Kind: api.AskTable, Filter: all(), Dims: example.Picks(1, 1), Measure: -1}
	change(&q)
	return q
}

func model(change func(q *api.Question)) api.Question {
	q := api.Question{Name: "m", Kind: api.AskModel, Filter: all(), Measure: 4, Terms: []int{3}}
	change(&q)
	return q
}

func curve(change func(q *api.Question)) api.Question {
	q := api.Question{Name: "c", Kind: api.AskCurve, Filter: all(), Measure: 5, Event: all()}
	change(&q)
	return q
}

// TestQuestion is about P8.1: each error, and which one comes first.
func TestQuestion(t *testing.T) {
	type q = api.Question
	for i, c := range []struct {
		q q
		e api.Errno
	}{
		{table(func(x *q) {}), api.OK},
		{table(func(x *q) { x.Dims, x.Measure = example.Picks(6, 0, 1, 2, 2, 1), 3 }), api.OK},
		{table(func(x *q) { x.Name, x.Kind = "to", 9 }), api.ErrName},
		{table(func(x *q) { x.Kind, x.Filter.Op = 0, 0 }), api.ErrKind},
		{table(func(x *q) { x.Kind, x.Filter.Op = 4, 0 }), api.ErrKind},
		{table(func(x *q) { x.Filter.Column, x.Dims = 1, nil }), api.ErrForm},
		{table(func(x *q) { x.Filter, x.Dims = api.Cond{Op: api.CondUnder, Column: 1, Code: 6}, nil }), api.ErrCode},
		{table(func(x *q) { x.Dims, x.Measure = nil, 99 }), api.ErrLimit},
		{table(func(x *q) { x.Dims = example.Picks(1, 0, 2, 0, 6, 0, 0, 0) }), api.ErrLimit},
		{table(func(x *q) { x.Dims = example.Picks(0, 0) }), api.ErrColumn},
		{table(func(x *q) { x.Dims = example.Picks(7, 0) }), api.ErrColumn},
		{table(func(x *q) { x.Dims = example.Picks(-1, 0) }), api.ErrColumn},
		{table(func(x *q) { x.Dims = example.Picks(1, 3) }), api.ErrLevel},
		{table(func(x *q) { x.Dims = example.Picks(1, -1) }), api.ErrLevel},
		{table(func(x *q) { x.Dims = example.Picks(3, 4) }), api.ErrLevel},
		{table(func(x *q) { x.Dims = example.Picks(3, 1) }), api.ErrColumn},
		{table(func(x *q) { x.Dims = example.Picks(1, 0, 1, 1) }), api.ErrDuplicate},
		{table(func(x *q) { x.Dims = example.Picks(1, 0, 1, 9) }), api.ErrLevel},
		{table(func(x *q) { x.Dims, x.Measure = example.Picks(1, 0, 1, 0), 1 }), api.ErrDuplicate},
		{table(func(x *q) { x.Measure = 1 }), api.ErrColumn},
		{table(func(x *q) { x.Measure = 0 }), api.ErrColumn},
		{table(func(x *q) { x.Measure = -2 }), api.ErrColumn},
		{table(func(x *q) { x.Measure, x.Terms = 7, []int{3} }), api.ErrColumn},
		{table(func(x *q) { x.Terms = []int{3} }), api.ErrForm},
		{table(func(x *q) { x.Event = all() }), api.ErrForm},
		{table(func(x *q) { x.Event.Kids = []api.Cond{{}} }), api.ErrForm},
		{table(func(x *q) { x.Event.High = 1 }), api.ErrForm},
		{table(func(x *q) { x.Event.Kids, x.Terms = []api.Cond{}, []int{} }), api.OK},
		{model(func(x *q) {}), api.OK},
		{model(func(x *q) { x.Terms = []int{5, 3} }), api.OK},
		{model(func(x *q) { x.Measure, x.Terms = -1, nil }), api.ErrColumn},
		{model(func(x *q) { x.Measure = 1 }), api.ErrColumn},
		{model(func(x *q) { x.Measure = 9 }), api.ErrColumn},
		{model(func(x *q) { x.Terms, x.Dims = nil, example.Picks(1, 1) }), api.ErrLimit},
		{model(func(x *q) { x.Terms = []int{1, 1, 1, 1} }), api.ErrLimit},
		{model(func(x *q) { x.Terms = []int{1} }), api.ErrColumn},
		{model(func(x *q) { x.Terms = []int{3, 3, 1} }), api.ErrDuplicate},
		{model(func(x *q) { x.Terms = []int{3, 1, 3} }), api.ErrColumn},
		{model(func(x *q) { x.Terms = []int{3, 4} }), api.ErrDuplicate},
		{model(func(x *q) { x.Dims = example.Picks(1, 1) }), api.ErrForm},
		{model(func(x *q) { x.Event = all() }), api.ErrForm},
		{curve(func(x *q) {}), api.OK},
		{curve(func(x *q) { x.Measure, x.Event = -1, api.Cond{} }), api.ErrColumn},
		{curve(func(x *q) { x.Measure = 2 }), api.ErrColumn},
		{curve(func(x *q) { x.Measure, x.Event = 4, api.Cond{} }), api.ErrRange},
		{curve(func(x *q) { x.Event, x.Dims = api.Cond{}, example.Picks(1, 1) }), api.ErrKind},
		{curve(func(x *q) { x.Dims = example.Picks(1, 1) }), api.ErrForm},
		{curve(func(x *q) { x.Terms = []int{3} }), api.ErrForm},
	} {
		want(t, fmt.Sprint(i, c.q), declaration.Question(example.Schema(), c.q), c.e)
	}
	want(t, "a wrong schema first", declaration.Question(wrongSchema(), q{}), api.ErrDuplicate)
	want(t, "times that can be less than 0", declaration.Question(negative(), curve(func(x *q) {})), api.ErrRange)
}

func with(change func(d *api.Declaration)) api.Declaration {
	d := example.Declaration()
	change(&d)
	return d
}

func many(n int) []api.Question {
	var l []api.Question
	for i := range n {
		l = append(l, table(func(q *api.Question) { q.Name = fmt.Sprintf("q%d", i) }))
	}
	return l
}

// TestCheck is about P8.2: each error, and which one comes first.
func TestCheck(t *testing.T) {
	type d = api.Declaration
	sample := func(part, of, seed int) api.Declaration {
		return with(func(x *d) { x.Sample = api.Sample{Part: part, Of: of, Seed: seed} })
	}
	for i, c := range []struct {
		d d
		e api.Errno
	}{
		{example.Declaration(), api.OK},
		{with(func(x *d) { x.Project, x.Cohort = "Trial", api.Cond{} }), api.ErrName},
		{with(func(x *d) { x.Source, x.Cohort = "", api.Cond{} }), api.ErrName},
		{with(func(x *d) { x.Cohort, x.Sample.Of = api.Cond{}, 0 }), api.ErrKind},
		{with(func(x *d) { x.Cohort.High, x.Sample.Of = 3, 0 }), api.ErrRange},
		{sample(1, 0, 0), api.ErrRange}, {sample(1, -1, 0), api.ErrRange}, {sample(1, api.MaxPart, 0), api.OK}, {sample(1, api.MaxPart+1, 0), api.ErrRange},
		{sample(0, 5, 0), api.ErrRange}, {sample(5, 5, 0), api.OK}, {sample(6, 5, 0), api.ErrRange},
		{sample(1, 5, -1), api.ErrRange}, {sample(1, 5, api.MaxSeed), api.OK}, {sample(1, 5, api.MaxSeed+1), api.ErrRange},
		{with(func(x *d) { x.Sample.Of, x.Questions = 0, nil }), api.ErrRange},
		{with(func(x *d) { x.Questions = nil }), api.ErrLimit},
		{with(func(x *d) { x.Questions = many(8) }), api.OK},
		{with(func(x *d) { x.Questions = make([]api.Question, 9) }), api.ErrLimit},
		{with(func(x *d) { x.Questions[2].Terms = nil }), api.ErrLimit},
		{with(func(x *d) { x.Questions[3].Name = "counts" }), api.ErrDuplicate},
		{with(func(x *d) { x.Questions[1].Name = "counts"; x.Questions[1].Kind = 7 }), api.ErrKind},
		{with(func(x *d) { x.Questions[1].Name = "counts"; x.Questions[2].Kind = 7 }), api.ErrDuplicate},
	} {
		want(t, fmt.Sprint(i, c.d), declaration.Check(example.Schema(), c.d), c.e)
	}
	want(t, "a wrong schema first", declaration.Check(wrongSchema(), d{}), api.ErrDuplicate)
}

const head = "project trial\nsource people\ncohort age from 10 to 99\nsample 1 of 1 seed 7\n"
const tail = "table counts by area/1 sex/1 where all\ntable sums by kind/2 sum income where sex under f\nmodel line of income on age weeks where not income missing\ncurve stay of weeks event age from 40 to 99 where all\n"

// TestText is about P8.3: the text of a declaration, and back.
func TestText(t *testing.T) {
	text, e := declaration.Print(example.Schema(), example.Declaration())
	want(t, "print", fmt.Sprint(text, e), fmt.Sprint(head+tail, api.OK))
	d, line, e := declaration.Parse(example.Schema(), head+tail)
	want(t, "parse", fmt.Sprint(line, e), "0 0")
	want(t, "declaration", d, example.Declaration())
	for _, questions := range []string{
		"table sum by area/0 sum weeks where (all and not all)\n",
		"table by by area/0 sex/0 kind/0 where all\n",
		"model of of income on age weeks where all\n",
		"curve curve of weeks event (all or all) where (all or income missing)\n",
	} {
		d, line, e := declaration.Parse(example.Schema(), head+questions)
		want(t, questions, fmt.Sprint(line, e), "0 0")
		again, e := declaration.Print(example.Schema(), d)
		want(t, questions, fmt.Sprint(again, e), fmt.Sprint(head+questions, api.OK))
	}
	for _, c := range []struct {
		s api.Schema
		d api.Declaration
		e api.Errno
	}{{wrongSchema(), example.Declaration(), api.ErrDuplicate}, {example.Schema(), api.Declaration{}, api.ErrName}, {example.Schema(), with(func(d *api.Declaration) { d.Sample.Seed = -1 }), api.ErrRange}} {
		text, e := declaration.Print(c.s, c.d)
		want(t, "no text", fmt.Sprint(text, e), fmt.Sprint("", c.e))
	}
}

// TestParseForm is about P8.3: the first line that has not the form.
func TestParseForm(t *testing.T) {
	q := "table t by area/1 where all\n"
	for _, c := range []struct {
		text string
		line int
	}{
		{"", 1}, {"\n", 1}, {"project trial", 1}, {"project trial\n", 2}, {"project trial\nsource people\n", 3}, {head[:strings.Index(head, "sample")], 4},
		{"source people\n", 1}, {"project\n", 1}, {"project a b\n", 1}, {"project  a\n", 1}, {" project a\n", 1}, {"project a \n", 1}, {"project where\n", 1},
		{"project a\nproject b\n", 2}, {"project a\nsource where\n", 2}, {"project a\nsource b", 2},
		{strings.Replace(head, "age from 10 to 99", "age from 10 to", 1), 3}, {strings.Replace(head, "age from 10 to 99", "", 1), 3}, {strings.Replace(head, "cohort ", "cohorts ", 1), 3}, {strings.Replace(head, "age", "person", 1), 3},
		{strings.Replace(head, "sample 1 of 1", "sample 01 of 1", 1), 4}, {strings.Replace(head, "sample 1 of 1", "sample 1 of -1", 1), 4}, {strings.Replace(head, "seed 7", "seed", 1), 4}, {strings.Replace(head, "seed 7", "seed 7 7", 1), 4}, {strings.Replace(head, "seed", "sead", 1), 4}, {strings.Replace(head, " of ", " in ", 1), 4}, {strings.Replace(head, "seed 7", "seed 1000000000000000", 1), 4}, {strings.Replace(head, "sample 1", "sample x", 1), 4}, {strings.Replace(head, "sample 1", "samples 1", 1), 4},
		{head + q + "\n", 6}, {head + strings.TrimSuffix(q, "\n"), 5}, {head + "x" + q, 5}, {head + "plot t by area/1 where all\n", 5}, {head + q + q + "x\n", 7},
		{head + "table t by area/1\n", 5}, {head + "table t by area/1 where\n", 5}, {head + "table t by area/1 where \n", 5}, {head + "table t by area/1 where all where all\n", 5}, {head + "table t by area/1 where no\n", 5}, {head + "table t by area/1 where  all\n", 5},
		{head + "table t by where all\n", 5}, {head + "table t where all\n", 5}, {head + "table where by area/1 where all\n", 5}, {head + "table t of area/1 where all\n", 5}, {head + "table t by area where all\n", 5}, {head + "table t by areas/1 where all\n", 5}, {head + "table t by area/ where all\n", 5}, {head + "table t by area/01 where all\n", 5}, {head + "table t by area/-1 where all\n", 5}, {head + "table t by area/1/1 where all\n", 5}, {head + "table t by area/1  sex/1 where all\n", 5},
		{head + "table t by area/1 sum where all\n", 5}, {head + "table t by area/1 sum no where all\n", 5}, {head + "table t by area/1 of income where all\n", 5}, {head + "table t by sum income where all\n", 5}, {head + "table t by area/1 sum income sex/1 where all\n", 5},
		{head + "table t by area/1 sex/1 kind/1 area/1 where all\n", 5},
		{head + "model m of income on where all\n", 5}, {head + "model m of income where all\n", 5}, {head + "model m of income on no where all\n", 5}, {head + "model m of no on age where all\n", 5}, {head + "model m of income by age where all\n", 5}, {head + "model m on income of age where all\n", 5}, {head + "model m of income on age\n", 5}, {head + "model m of income on age age age age where all\n", 5},
		{head + "curve c of weeks event where all\n", 5}, {head + "curve c of weeks event all\n", 5}, {head + "curve c of no event all where all\n", 5}, {head + "curve c of weeks events all where all\n", 5}, {head + "curve c of weeks event  all where all\n", 5}, {head + "curve c of weeks all where all\n", 5}, {head + "curve c of weeks event no where all\n", 5}, {head + "curve c by weeks event all where all\n", 5},
	} {
		d, line, e := declaration.Parse(example.Schema(), c.text)
		want(t, c.text, fmt.Sprintf("%+v %d %d", d, line, e), fmt.Sprintf("%+v %d %d", api.Declaration{}, c.line, api.ErrForm))
	}
}

// TestParseRight is about P8.3: texts of the right form, with the errors of Check.
func TestParseRight(t *testing.T) {
	q := "table t by area/1 where all\n"
	for _, c := range []struct {
		text string
		e    api.Errno
	}{
		{head, api.ErrLimit},
		{strings.Replace(head, "trial", "\xff/1", 1) + q, api.ErrName},
		{strings.Replace(head, "people", "People", 1) + q, api.ErrName},
		{strings.Replace(head, "1 of 1", "2 of 1", 1) + q, api.ErrRange},
		{strings.Replace(head, "1 of 1", "0 of 0", 1) + q, api.ErrRange},
		{strings.Replace(head, "seed 7", "seed 999999999999999", 1) + q, api.ErrRange},
		{head + q + q, api.ErrDuplicate},
		{head + strings.Repeat(q, 9), api.ErrLimit},
		{head + "table T by area/1 where all\n", api.ErrName},
		{head + "table t by area/3 where all\n", api.ErrLevel},
		{head + "table t by person/0 where all\n", api.ErrColumn},
		{head + "table t by age/0 where all\n", api.ErrColumn},
		{head + "table t by area/1 sum person where all\n", api.ErrColumn},
		{head + "table t by area/1 area/1 where all\n", api.ErrDuplicate},
		{head + "model m of area on age where all\n", api.ErrColumn},
		{head + "model m of income on income where all\n", api.ErrDuplicate},
		{head + "model m of income on age weeks income where all\n", api.ErrDuplicate},
		{head + "curve c of income event all where all\n", api.ErrRange},
		{head + "curve c of person event all where all\n", api.ErrColumn},
	} {
		d, line, e := declaration.Parse(example.Schema(), c.text)
		want(t, c.text, fmt.Sprintf("%+v %d %d", d, line, e), fmt.Sprintf("%+v %d %d", api.Declaration{}, 0, c.e))
	}
	_, line, e := declaration.Parse(wrongSchema(), "")
	want(t, "a wrong schema first", fmt.Sprint(line, e), fmt.Sprint(0, api.ErrDuplicate))
	_, line, e = declaration.Parse(example.Schema(), strings.Repeat("x", api.MaxText+1))
	want(t, "too long", fmt.Sprint(line, e), fmt.Sprint(0, api.ErrLimit))
	_, line, e = declaration.Parse(example.Schema(), strings.Repeat("x", api.MaxText))
	want(t, "not too long", fmt.Sprint(line, e), fmt.Sprint(1, api.ErrForm))
}

// TestLong is about P8.3: eight questions with conditions that are as long as they can be. (Their text stays below api.MaxText.)
func TestLong(t *testing.T) {
	s := example.Schema()
	for i := range s.Columns {
		s.Columns[i].Name = strings.Repeat(string(rune('a'+i)), api.MaxName)
	}
	leaf := api.Cond{Op: api.CondBetween, Column: 3, Low: -api.MaxMeasure, High: -api.MaxMeasure}
	pair := func(a, b api.Cond) api.Cond { return api.Cond{Op: api.CondAnd, Kids: []api.Cond{a, b}} }
	four := pair(pair(leaf, leaf), pair(leaf, leaf))
	sixteen := pair(pair(four, four), pair(four, four))
	long := api.Cond{Op: api.CondNot, Kids: []api.Cond{pair(sixteen, four)}}
	d := example.Declaration()
	d.Cohort, d.Questions = long, nil
	for i := range api.MaxQuestions {
		d.Questions = append(d.Questions, api.Question{Name: fmt.Sprintf("question_number%d", i), Kind: api.AskCurve, Measure: 5, Event: long, Filter: long})
	}
	text, e := declaration.Print(s, d)
	want(t, "print", fmt.Sprint(e, len(text) > 15000, len(text) <= api.MaxText), "0 true true")
	again, line, e := declaration.Parse(s, text)
	want(t, "parse", fmt.Sprint(line, e), "0 0")
	want(t, "declaration", again, d)
}
