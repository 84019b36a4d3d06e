package recompute_test

import (
	"fmt"
	"strings"
	"testing"

	"dataenclave/api"
	"dataenclave/document"
	"dataenclave/example"
	"dataenclave/extract"
	"dataenclave/interpret"
	"dataenclave/program"
	"dataenclave/recompute"
)

func want(t *testing.T, name string, got, want any) {
	t.Helper()
	if fmt.Sprintf("%+v", got) != fmt.Sprintf("%+v", want) {
		t.Errorf("%s: got %+v, want %+v", name, got, want)
	}
}

func parse(t *testing.T, text string) []api.Statement {
	t.Helper()
	l, line, e := program.Parse(example.Schema(), text)
	if e != api.OK {
		t.Fatal(text, line, e)
	}
	return l
}

// TestBoth is about P26.1 and P26.2: what Make makes, and that Check accepts it.
func TestBoth(t *testing.T) {
	s, x, l := example.Schema(), example.Extract(), parse(t, example.Text)
	values, _, _ := interpret.Run(s, x, l)
	for _, b := range values {
		should, _ := document.Print(b.Name, b.Value)
		text, v, e := recompute.Make(s, x, l, b.Name)
		if !b.Out {
			want(t, b.Name, fmt.Sprint(text, v, e), fmt.Sprint("", api.Value{}, api.ErrName))
			_, e = recompute.Check(s, x, l, should)
			want(t, b.Name, e, api.ErrName)
			continue
		}
		want(t, b.Name, fmt.Sprintf("%s %+v %d", text, v, e), fmt.Sprintf("%s %+v %d", should, b.Value, api.OK))
		v, e = recompute.Check(s, x, l, text)
		want(t, b.Name, fmt.Sprintf("%+v %d", v, e), fmt.Sprintf("%+v %d", b.Value, api.OK))
		narrow := extract.Narrow(x, v.Lineage)
		if b.Name != "pay_mean" {
			again, _, e := recompute.Make(s, narrow, l, b.Name)
			want(t, b.Name+" over its lineage", fmt.Sprint(again, e), fmt.Sprint(text, api.OK))
		}
	}
}

// TestMakeErrors is about P26.1.
func TestMakeErrors(t *testing.T) {
	s, x := example.Schema(), example.Extract()
	large := example.Schema()
	large.Lists[0].Codes = large.Lists[0].Codes[:1]
	for i := range 59 {
		large.Lists[0].Codes = append(large.Lists[0].Codes, api.Code{Name: fmt.Sprintf("c%d", i)})
	}
	large.Lists[2].Codes = large.Lists[0].Codes[:30]
	for _, c := range []struct {
		name string
		s    api.Schema
		x    api.Extract
		l    []api.Statement
		out  string
		e    api.Errno
	}{
		{"the run first", s, api.Extract{}, nil, "", api.ErrName},
		{"a program with an error elsewhere", s, x, parse(t, "let a = (1 / 0)\nout n = 1\n"), "n", api.ErrEmpty},
		{"no such name", s, x, parse(t, "out n = 1\n"), "m", api.ErrName},
		{"a name that is not to leave", s, x, parse(t, "let n = 1\n"), "n", api.ErrName},
		{"no name", s, x, parse(t, "let n = 1\n"), "", api.ErrName},
		{"too long a text", large, api.Extract{Project: "p", Picks: example.Picks(1, 1, 6, 1)}, []api.Statement{{Name: "n", Out: true, Expr: api.Expr{Op: api.ExprTable, Column: -1, Dims: example.Picks(1, 1, 6, 1), Cond: api.Cond{Op: api.CondAll}}}}, "n", api.ErrLimit},
	} {
		text, v, e := recompute.Make(c.s, c.x, c.l, c.out)
		want(t, c.name, fmt.Sprint(text, v, e), fmt.Sprint("", api.Value{}, c.e))
	}
}

// TestCheckErrors is about P26.2.
func TestCheckErrors(t *testing.T) {
	s, x, l := example.Schema(), example.Extract(), parse(t, "let a = 1\nout n = count(all)\nout t = table(sex/1; income; all)\n")
	table, _, _ := recompute.Make(s, x, l, "t")
	failing := parse(t, "let a = (1 / 0)\nout n = count(all)\n")
	for _, c := range []struct {
		name string
		x    api.Extract
		l    []api.Statement
		text string
		e    api.Errno
	}{
		{"the text first", api.Extract{}, l, "output n number\nvalue 10\n", api.ErrForm},
		{"a long text", api.Extract{}, l, strings.Repeat("x", api.MaxText+1), api.ErrLimit},
		{"the run", x, failing, "output m number\nvalue 10/1\n", api.ErrEmpty},
		{"no such name", x, l, "output m number\nvalue 10/1\n", api.ErrName},
		{"a name that is not to leave", x, l, "output a number\nvalue 1/1\n", api.ErrName},
		{"right", x, l, "output n number\nvalue 10/1\n", api.OK},
		{"another number", x, l, "output n number\nvalue 9/1\n", api.ErrValue},
		{"another kind", x, l, "output n hist\n", api.ErrValue},
		{"another extract", extract.Narrow(x, []int{1}), l, "output n number\nvalue 10/1\n", api.ErrValue},
		{"a table", x, l, table, api.OK},
		{"another table", x, l, strings.Replace(table, "count 4", "count 6", 1), api.ErrValue},
	} {
		v, e := recompute.Check(s, c.x, c.l, c.text)
		want(t, c.name, e, c.e)
		if e != api.OK {
			want(t, c.name, v, api.Value{})
		}
	}
}
