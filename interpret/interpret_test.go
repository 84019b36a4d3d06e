package interpret_test

import (
	"fmt"
	"slices"
	"testing"

	"dataenclave/api"
	"dataenclave/example"
	"dataenclave/extract"
	"dataenclave/interpret"
	"dataenclave/minimise"
	"dataenclave/plot"
	"dataenclave/program"
	"dataenclave/regress"
	"dataenclave/schema"
	"dataenclave/source"
	"dataenclave/survive"
	"dataenclave/tabulate"
)

func want(t *testing.T, name string, got, want any) {
	t.Helper()
	if fmt.Sprintf("%+v", got) != fmt.Sprintf("%+v", want) {
		t.Errorf("%s: got %+v, want %+v", name, got, want)
	}
}

func parse(t *testing.T, text string) []api.Statement {
	t.Helper()
	l, line, e := program.Parse(example.Schema(), text)
	if e != api.OK {
		t.Fatal(text, line, e)
	}
	return l
}

// expr reads an expression, in which the names a and b may stand.
func expr(t *testing.T, text string) api.Expr {
	t.Helper()
	return parse(t, "let a = 1\nlet b = 1\nlet x = "+text+"\n")[2].Expr
}

func frac(num, den int) api.Frac { return api.Frac{Num: num, Den: den} }

func number(num, den int, keys ...int) api.Value {
	return api.Value{Kind: api.KindNumber, Number: frac(num, den), Lineage: keys}
}

func wrongSchema() api.Schema {
	s := example.Schema()
	s.Columns[1].Name = "person"
	return s
}

// before are earlier values: two with the name a, and one that is no number.
func before() []api.Binding {
	return []api.Binding{{Name: "a", Value: number(9, 1, 77)}, {Name: "b", Value: api.Value{Kind: api.KindBox, Box: api.Box{Count: 4}, Lineage: []int{5}}}, {Name: "a", Value: number(1, 2, 2, 1000)}}
}

// TestNumbers is about P22.1: numbers with their lineage.
func TestNumbers(t *testing.T) {
	for _, c := range []struct {
		text string
		v    api.Value
	}{
		{"7", number(7, 1)}, {"-1099511627776", number(-api.MaxInt, 1)}, {"a", number(1, 2, 2, 1000)}, {"b", before()[1].Value},
		{"count(all)", number(10, 1, 1, 2, 3, 5, 8, 9, 12, 30, 31, 700)}, {"count(income from 0 to 1000)", number(3, 1, 5, 9, 30)}, {"count(age from 200 to 300)", number(0, 1)},
		{"sum(income; age from 0 to 39)", number(4010, 1, 1, 8, 9, 30)}, {"sum(income; income missing)", number(0, 1)}, {"sum(income; income from -500 to -1)", number(-50, 1, 2)},
		{"mean(income; age from 0 to 39)", number(2005, 2, 1, 8, 9, 30)}, {"mean(weeks; sex under f)", number(59, 5, 1, 3, 8, 12, 30)},
		{"(count(age from 0 to 19) + count(sex under m))", number(7, 1, 2, 3, 5, 9, 30, 31, 700)}, {"(count(age from 0 to 19) - count(sex under m))", number(-3, 1, 2, 3, 5, 9, 30, 31, 700)},
		{"(a * count(age from 0 to 19))", number(1, 1, 2, 3, 30, 1000)}, {"(3 / (0 - 9))", number(-1, 3)}, {"((a + a) - 1)", number(0, 1, 2, 1000)},
	} {
		v, e := interpret.Eval(example.Schema(), example.Extract(), before(), expr(t, c.text))
		want(t, c.text, fmt.Sprintf("%+v %d", v, e), fmt.Sprintf("%+v %d", c.v, api.OK))
	}
}

// TestLarger is about P22.1: tables, models, curves, histograms and boxes with their lineage.
func TestLarger(t *testing.T) {
	s, x := example.Schema(), example.Extract()
	table, _ := tabulate.Make(s, x, example.Picks(1, 1, 2, 1), 4, expr(t, "count(age from 0 to 59)").Cond)
	model, modelKeys, _ := regress.Make(s, x, 4, []int{3, 5}, expr(t, "count(all)").Cond)
	curve, curveKeys, _ := survive.Make(s, x, 5, expr(t, "count(age from 40 to 99)").Cond, expr(t, "count(sex under f)").Cond)
	hist, histKeys, _ := plot.Hist(s, x, 4, 100, expr(t, "count(all)").Cond)
	box, boxKeys, _ := plot.Box(s, x, 4, expr(t, "count(sex under f)").Cond)
	for _, c := range []struct {
		text string
		v    api.Value
	}{
		{"table(area/1, sex/1; income; age from 0 to 59)", api.Value{Kind: api.KindTable, Table: table, Lineage: []int{1, 2, 8, 9, 30, 700}}},
		{"model(income; age, weeks; all)", api.Value{Kind: api.KindModel, Model: model, Lineage: modelKeys}},
		{"curve(weeks; age from 40 to 99; sex under f)", api.Value{Kind: api.KindCurve, Curve: curve, Lineage: curveKeys}},
		{"hist(income; 100; all)", api.Value{Kind: api.KindHist, Hist: hist, Lineage: histKeys}},
		{"box(income; sex under f)", api.Value{Kind: api.KindBox, Box: box, Lineage: boxKeys}},
	} {
		v, e := interpret.Eval(s, x, nil, expr(t, c.text))
		want(t, c.text, fmt.Sprintf("%+v %d", v, e), fmt.Sprintf("%+v %d", c.v, api.OK))
		want(t, c.text+" has rows", len(v.Lineage) > 3, true)
	}
}

// TestEvalErrors is about P22.1: errors, of which the first one counts.
func TestEvalErrors(t *testing.T) {
	s := example.Schema()
	short := example.Extract()
	short.Picks, short.Rows = example.Picks(3, 2), nil
	wrong := expr(t, "count(all)")
	wrong.Num = 1
	bad := []api.Binding{{Name: "a", Value: api.Value{Kind: api.KindNumber, Number: frac(2, 4)}}}
	large := []api.Binding{{Name: "a", Value: number(api.MaxFrac, 1)}, {Name: "b", Value: number(3, 1)}}
	for _, c := range []struct {
		name   string
		x      api.Extract
		before []api.Binding
		e      api.Expr
		err    api.Errno
	}{
		{"the extract first", api.Extract{}, nil, wrong, api.ErrName},
		{"not right", short, nil, wrong, api.ErrForm},
		{"the plan", short, nil, expr(t, "(a + count(age from 0 to 2))"), api.ErrPlan},
		{"missing", example.Extract(), nil, expr(t, "(mean(income; income missing) + a)"), api.ErrMissing},
		{"a type", example.Extract(), before(), expr(t, "(mean(income; income missing) + b)"), api.ErrType},
		{"an empty mean", example.Extract(), nil, expr(t, "mean(income; income missing)"), api.ErrEmpty},
		{"the left one first", example.Extract(), large, expr(t, "((a * a) + mean(income; income missing))"), api.ErrOverflow},
		{"the right one", example.Extract(), large, expr(t, "(a + mean(income; income missing))"), api.ErrEmpty},
		{"both before themselves", example.Extract(), large, expr(t, "((1 / 0) * (a * a))"), api.ErrEmpty},
		{"division by 0", example.Extract(), nil, expr(t, "(1 / count(age from 200 to 300))"), api.ErrEmpty},
		{"too large a sum", example.Extract(), large, expr(t, "(a + b)"), api.ErrOverflow},
		{"too large a difference", example.Extract(), large, expr(t, "((0 - a) - b)"), api.ErrOverflow},
		{"too large a quotient", example.Extract(), large, expr(t, "((1 / a) / b)"), api.ErrOverflow},
		{"a number that is no fraction", example.Extract(), bad, expr(t, "(a + 1)"), api.ErrForm},
		{"it can be named", example.Extract(), bad, expr(t, "a"), api.OK},
		{"a table", short, nil, expr(t, "table(area/1; -; all)"), api.ErrPlan},
		{"a model", example.Extract(), nil, expr(t, "model(income; age; age from 200 to 300)"), api.ErrForm},
		{"a singular model", example.Extract(), nil, expr(t, "model(income; age; area under north)"), api.OK},
		{"a box", example.Extract(), nil, expr(t, "box(income; income missing)"), api.ErrEmpty},
		{"a histogram", example.Extract(), nil, expr(t, "hist(income; 1; income missing)"), api.OK},
	} {
		v, e := interpret.Eval(s, c.x, c.before, c.e)
		want(t, c.name, e, c.err)
		if e != api.OK {
			want(t, c.name, v, api.Value{})
		}
	}
	_, e := interpret.Eval(wrongSchema(), example.Extract(), nil, wrong)
	want(t, "a wrong schema", e, api.ErrDuplicate)
}

// TestRun is about P22.2.
func TestRun(t *testing.T) {
	s := example.Schema()
	three := extract.Narrow(example.Extract(), []int{1, 3, 9})
	l, n, e := interpret.Run(s, three, parse(t, "let a = count(all)\nout b = (a * 2)\n"))
	want(t, "the chapter's example", fmt.Sprintf("%+v %d %d", l, n, e), fmt.Sprintf("%+v %d %d", []api.Binding{{Name: "a", Value: number(3, 1, 1, 3, 9)}, {Name: "b", Out: true, Value: number(6, 1, 1, 3, 9)}}, 2, api.OK))
	all := parse(t, example.Text)
	l, n, e = interpret.Run(s, example.Extract(), all)
	want(t, "the example", fmt.Sprint(len(l), n, e), "11 11 0")
	for i, x := range all {
		v, e := interpret.Eval(s, example.Extract(), l[:i], x.Expr)
		want(t, x.Name, fmt.Sprintf("%+v %d", l[i], e), fmt.Sprintf("%+v %d", api.Binding{Name: x.Name, Out: x.Out, Value: v}, api.OK))
	}
	l, n, e = interpret.Run(s, example.Extract(), nil)
	want(t, "nothing", fmt.Sprint(l, n, e), "[] 0 0")
	short := example.Extract()
	short.Picks, short.Rows = nil, [][]int{{5}}
	for _, c := range []struct {
		name string
		x    api.Extract
		l    []api.Statement
		n    int
		e    api.Errno
	}{
		{"the extract first", api.Extract{}, make([]api.Statement, 31), -1, api.ErrName},
		{"too many statements", short, make([]api.Statement, 31), -1, api.ErrLimit},
		{"program.Check before types", short, append(parse(t, "let a = sum(income; all)\n"), api.Statement{}), 1, api.ErrName},
		{"types before values", short, parse(t, "let a = (1 / 0)\nlet b = sum(income; all)\n"), 1, api.ErrPlan},
		{"values", short, parse(t, "let a = count(all)\nlet b = (a / (1 - a))\nlet c = (1 / 0)\n"), 1, api.ErrEmpty},
		{"the first value with an error", short, parse(t, "let a = (1 / 0)\nlet b = (2 / 0)\n"), 0, api.ErrEmpty},
	} {
		l, n, e := interpret.Run(s, c.x, c.l)
		want(t, c.name, fmt.Sprint(l, n, e), fmt.Sprint([]api.Binding{}, c.n, c.e))
	}
	l, n, e = interpret.Run(wrongSchema(), example.Extract(), nil)
	want(t, "a wrong schema", fmt.Sprint(l, n, e), fmt.Sprint([]api.Binding{}, -1, api.ErrDuplicate))
}

// TestOuts is about P22.3.
func TestOuts(t *testing.T) {
	l := []api.Binding{{Name: "a", Out: true}, {Name: "b"}, {Name: "c", Out: true}, {Name: "a", Out: true}}
	want(t, "outs", interpret.Outs(l), []api.Binding{l[0], l[2], l[3]})
	want(t, "none", interpret.Outs(l[1:2]), []api.Binding{})
}

// TestQuestions is about P22.3.
func TestQuestions(t *testing.T) {
	s := example.Schema()
	l, e := interpret.Questions(s, example.Declaration())
	text, _ := program.Print(s, l)
	want(t, "questions", fmt.Sprint(text, e), fmt.Sprint("out counts = table(area/1, sex/1; -; all)\nout sums = table(kind/2; income; sex under f)\nout line = model(income; age, weeks; not income missing)\nout stay = curve(weeks; age from 40 to 99; all)\n", api.OK))
	l, e = interpret.Questions(s, api.Declaration{})
	want(t, "error", fmt.Sprint(l, e), fmt.Sprint([]api.Statement{}, api.ErrName))
	l, e = interpret.Questions(wrongSchema(), example.Declaration())
	want(t, "a wrong schema", fmt.Sprint(l, e), fmt.Sprint([]api.Statement{}, api.ErrDuplicate))
}

// TestLeastExtract is about P22.3: what Questions computes over the least extract it computes over each finer one, too.
func TestLeastExtract(t *testing.T) {
	s, d := example.Schema(), example.Declaration()
	people, _ := source.New(s, example.Rows())
	plan, _ := minimise.Plan(s, d)
	least, e := extract.Build(people, d, plan, 7)
	want(t, "least", e, api.OK)
	var all []api.Pick
	for column := 1; column < len(s.Columns); column++ {
		all = append(all, api.Pick{Column: column, Level: schema.Finest(s, column)})
	}
	finest, e := extract.Build(people, d, all, 7)
	want(t, "finest", e, api.OK)
	l, _ := interpret.Questions(s, d)
	a, _, e := interpret.Run(s, least, l)
	want(t, "over the least", e, api.OK)
	b, _, e := interpret.Run(s, finest, l)
	want(t, "over the finest", e, api.OK)
	want(t, "values", a, b)
}

// TestLineage is about P22.1 and P22.2: over the rows of its lineage, and any others, a value is the same.
func TestLineage(t *testing.T) {
	s, x := example.Schema(), example.Extract()
	l := parse(t, example.Text)
	values, _, _ := interpret.Run(s, x, l)
	for i, v := range values {
		for _, more := range [][]int{nil, {1, 8}, {700, 31, 12}} {
			narrow := extract.Narrow(x, slices.Concat(v.Value.Lineage, more))
			need := []api.Statement{l[i]}
			if i > 0 && i < 5 {
				need = l[:i+1]
			}
			again, _, e := interpret.Run(s, narrow, need)
			want(t, l[i].Name, fmt.Sprintf("%+v %d", again[len(again)-1].Value, e), fmt.Sprintf("%+v %d", v.Value, api.OK))
		}
	}
}
