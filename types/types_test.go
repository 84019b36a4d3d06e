package types_test

import (
	"fmt"
	"testing"

	"dataenclave/api"
	"dataenclave/example"
	"dataenclave/program"
	"dataenclave/types"
)

func want(t *testing.T, name string, got, want any) {
	t.Helper()
	if fmt.Sprintf("%+v", got) != fmt.Sprintf("%+v", want) {
		t.Errorf("%s: got %+v, want %+v", name, got, want)
	}
}

// expr reads the text of an expression; names in it need not exist.
func expr(t *testing.T, text string) api.Expr {
	t.Helper()
	names := "let a = 1\nlet b = 1\nlet c = 1\nlet d = 1\nlet e = 1\nlet f = 1\n"
	l, line, e := program.Parse(example.Schema(), names+"let x = "+text+"\n")
	if e != api.OK {
		t.Fatal(text, line, e)
	}
	return l[len(l)-1].Expr
}

func wrongSchema() api.Schema {
	s := example.Schema()
	s.Columns[1].Name = "person"
	return s
}

func finest() []api.Pick { return example.Picks(1, 2, 2, 1, 3, 3, 4, 2, 5, 2, 6, 2) }

// TestNeeds is about P17.1.
func TestNeeds(t *testing.T) {
	s := example.Schema()
	for _, c := range []struct {
		text  string
		picks []api.Pick
	}{
		{"5", nil}, {"a", nil}, {"count(all)", nil}, {"count(age from 20 to 39)", example.Picks(3, 1)}, {"count((kind under l1 and age from 20 to 24))", example.Picks(3, 2, 6, 1)},
		{"sum(income; all)", example.Picks(4, 2)}, {"mean(age; sex under f)", example.Picks(2, 1, 3, 3)},
		{"(sum(age; all) / (count(area under a) - count(area under north)))", example.Picks(1, 2, 3, 3)},
		{"((1 + count(area under north)) * a)", example.Picks(1, 1)},
		{"table(kind/2; -; all)", example.Picks(6, 1)}, {"table(area/0; -; all)", nil}, {"table(sex/1, area/1; age; age from 0 to 39)", example.Picks(1, 1, 2, 1, 3, 3)},
		{"model(income; weeks, age; all)", example.Picks(3, 3, 4, 2, 5, 2)},
		{"curve(weeks; age from 40 to 99; sex under f)", example.Picks(2, 1, 3, 1, 5, 2)},
		{"hist(age; 20; all)", example.Picks(3, 1)}, {"hist(age; 5; all)", example.Picks(3, 2)}, {"hist(age; 1; all)", example.Picks(3, 3)}, {"hist(age; 20; age from 5 to 99)", example.Picks(3, 2)}, {"hist(income; 100; all)", example.Picks(4, 1)},
		{"box(income; income missing)", example.Picks(4, 2)},
	} {
		want(t, c.text, types.Needs(s, expr(t, c.text)), c.picks)
	}
	single := example.Schema()
	single.Columns[5].Low, single.Columns[5].High = 9, 9
	want(t, "a column of one value", types.Needs(single, expr(t, "sum(weeks; all)")), []api.Pick{})
	single.Columns[5].Low, single.Columns[5].High = 8, 12
	want(t, "a column of two blocks and more values", types.Needs(single, expr(t, "hist(weeks; 4; all)")), example.Picks(5, 1))
	wrong := expr(t, "(count(area under a) + 1)")
	wrong.Kids[1].Num = api.MaxInt + 1
	want(t, "not right", types.Needs(s, wrong), []api.Pick{})
	want(t, "a wrong schema", types.Needs(wrongSchema(), expr(t, "sum(income; all)")), []api.Pick{})
}

// kinds are earlier values, some with kinds that are none.
func kinds() []api.Binding {
	var l []api.Binding
	for i, name := range []string{"a", "b", "c", "d", "a", "e"} {
		l = append(l, api.Binding{Name: name, Value: api.Value{Kind: i + 1}})
	}
	return append(l, api.Binding{Name: "f", Value: api.Value{Kind: 77}}, api.Binding{Name: "g", Value: api.Value{Kind: api.KindNumber}})
}

// TestExpr is about P17.2: kinds, and errors of types.
func TestExpr(t *testing.T) {
	for _, c := range []struct {
		text string
		kind int
		e    api.Errno
	}{
		{"5", api.KindNumber, api.OK}, {"count(all)", api.KindNumber, api.OK}, {"sum(income; all)", api.KindNumber, api.OK}, {"mean(income; all)", api.KindNumber, api.OK},
		{"(1 + 2)", api.KindNumber, api.OK}, {"(1 - 2)", api.KindNumber, api.OK}, {"(1 * 2)", api.KindNumber, api.OK}, {"(1 / 2)", api.KindNumber, api.OK},
		{"table(area/1; -; all)", api.KindTable, api.OK}, {"model(income; age; all)", api.KindModel, api.OK}, {"curve(weeks; all; all)", api.KindCurve, api.OK}, {"hist(age; 5; all)", api.KindHist, api.OK}, {"box(age; all)", api.KindBox, api.OK},
		{"a", 5, api.OK}, {"b", 2, api.OK}, {"d", 4, api.OK}, {"e", 6, api.OK}, {"f", 77, api.OK},
		{"(a + 1)", 0, api.ErrType}, {"(1 - b)", 0, api.ErrType}, {"((1 * f) / 2)", 0, api.ErrType}, {"(2 / (1 * e))", 0, api.ErrType},
	} {
		kind, e := types.Expr(example.Schema(), finest(), kinds(), expr(t, c.text))
		want(t, c.text, fmt.Sprint(kind, e), fmt.Sprint(c.kind, c.e))
	}
	name := func(s string) api.Expr { return api.Expr{Op: api.ExprName, Name: s} }
	add := func(a, b api.Expr) api.Expr { return api.Expr{Op: api.ExprAdd, Kids: []api.Expr{a, b}} }
	for i, c := range []struct {
		x    api.Expr
		kind int
		e    api.Errno
	}{
		{name("h"), 0, api.ErrMissing}, {add(name("g"), name("g")), 1, api.OK},
		{add(name("h"), name("b")), 0, api.ErrMissing}, {add(name("b"), name("h")), 0, api.ErrMissing},
		{add(add(name("b"), name("g")), name("h")), 0, api.ErrType}, {add(add(name("g"), name("h")), name("b")), 0, api.ErrMissing}, {add(name("b"), add(name("g"), name("h"))), 0, api.ErrMissing},
	} {
		kind, e := types.Expr(example.Schema(), finest(), kinds(), c.x)
		want(t, fmt.Sprint(i), fmt.Sprint(kind, e), fmt.Sprint(c.kind, c.e))
	}
}

// TestExprPlan is about P17.2: expressions that are not right, and picks that do not suffice.
func TestExprPlan(t *testing.T) {
	s := example.Schema()
	for _, c := range []struct {
		text  string
		picks []api.Pick
		e     api.Errno
	}{
		{"5", nil, api.OK}, {"5", example.Picks(1, 9), api.ErrPlan}, {"5", example.Picks(2, 0, 1, 0), api.ErrPlan}, {"5", example.Picks(0, 0), api.ErrPlan},
		{"count(age from 20 to 39)", example.Picks(3, 1), api.OK}, {"count(age from 20 to 39)", example.Picks(1, 2, 3, 3), api.OK}, {"count(age from 20 to 39)", example.Picks(3, 0), api.ErrPlan}, {"count(age from 20 to 39)", nil, api.ErrPlan},
		{"table(area/1; age; all)", example.Picks(1, 1, 3, 2), api.ErrPlan}, {"table(area/1; age; all)", example.Picks(1, 1, 3, 3), api.OK},
		{"(1 + (count(area under a) * 2))", example.Picks(1, 1), api.ErrPlan}, {"(1 + (count(area under a) * 2))", example.Picks(1, 2), api.OK},
		{"(f + count(area under a))", nil, api.ErrPlan},
	} {
		_, e := types.Expr(s, c.picks, kinds(), expr(t, c.text))
		want(t, c.text+" "+fmt.Sprint(c.picks), e, c.e)
	}
	wrong := expr(t, "sum(income; all)")
	wrong.Num = 1
	kind, e := types.Expr(s, example.Picks(9, 9), nil, wrong)
	want(t, "not right comes first", fmt.Sprint(kind, e), fmt.Sprint(0, api.ErrForm))
	deep := api.Expr{Op: api.ExprInt}
	for range 200 {
		deep = api.Expr{Op: api.ExprSub, Kids: []api.Expr{deep, {Op: api.ExprInt, Num: 1}}}
	}
	kind, e = types.Expr(s, nil, nil, deep)
	want(t, "an expression of any size", fmt.Sprint(kind, e), fmt.Sprint(api.KindNumber, api.OK))
	kind, e = types.Expr(wrongSchema(), nil, nil, expr(t, "5"))
	want(t, "nothing is right for a wrong schema", fmt.Sprint(kind, e), fmt.Sprint(0, api.ErrForm))
}

// TestProgram is about P17.3.
func TestProgram(t *testing.T) {
	s := example.Schema()
	parse := func(text string) []api.Statement {
		l, line, e := program.Parse(s, text)
		if e != api.OK {
			t.Fatal(text, line, e)
		}
		return l
	}
	l := parse(example.Text)
	got, n, e := types.Program(s, finest(), l)
	want(t, "the example", fmt.Sprint(got, n, e), fmt.Sprint([]int{1, 1, 1, 1, 1, 2, 2, 3, 4, 5, 6}, 11, api.OK))
	for _, c := range []struct {
		name  string
		l     []api.Statement
		picks []api.Pick
		n     int
		e     api.Errno
	}{
		{"nothing", nil, nil, 0, api.OK},
		{"nothing over no picks", nil, example.Picks(9, 9), 0, api.OK},
		{"program.Check first", append(parse("let t = table(area/1; -; all)\nlet a = (t + 1)\n"), api.Statement{Name: "to"}), finest(), 2, api.ErrName},
		{"a type", parse("let t = table(area/1; -; all)\nlet u = t\nlet a = (u + 1)\n"), finest(), 2, api.ErrType},
		{"a plan", parse("let t = table(area/1; -; all)\nlet u = t\nlet a = (u + 1)\n"), nil, 0, api.ErrPlan},
		{"a plan behind others", parse("let a = 1\nlet b = count(area under a)\n"), example.Picks(1, 1), 1, api.ErrPlan},
		{"too many statements", make([]api.Statement, 31), nil, -1, api.ErrLimit},
		{"missing", parse("let a = 1\nlet b = a\n")[1:], nil, 0, api.ErrMissing},
	} {
		kinds, n, e := types.Program(s, c.picks, c.l)
		want(t, c.name, fmt.Sprint(kinds, n, e), fmt.Sprint([]int{}, c.n, c.e))
	}
	kinds, n, e := types.Program(wrongSchema(), nil, nil)
	want(t, "a wrong schema", fmt.Sprint(kinds, n, e), fmt.Sprint([]int{}, -1, api.ErrDuplicate))
}

// TestFiner is about P17.2: what has its type over the picks that it needs has it over finer ones and more, and not over coarser ones.
func TestFiner(t *testing.T) {
	s := example.Schema()
	l, _, _ := program.Parse(s, example.Text)
	var before []api.Binding
	for _, x := range l {
		needs := types.Needs(s, x.Expr)
		kind, e := types.Expr(s, needs, before, x.Expr)
		want(t, x.Name, e, api.OK)
		finer, e := types.Expr(s, finest(), before, x.Expr)
		want(t, x.Name+" over finer picks", fmt.Sprint(finer, e), fmt.Sprint(kind, api.OK))
		for i := range needs {
			coarser := append([]api.Pick{}, needs...)
			coarser[i].Level--
			_, e := types.Expr(s, coarser, before, x.Expr)
			want(t, x.Name+" over coarser picks", e, api.ErrPlan)
			_, e = types.Expr(s, append(coarser[:i:i], coarser[i+1:]...), before, x.Expr)
			want(t, x.Name+" over fewer picks", e, api.ErrPlan)
		}
		before = append(before, api.Binding{Name: x.Name, Value: api.Value{Kind: kind}})
	}
}
