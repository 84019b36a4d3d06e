package program_test

import (
	"fmt"
	"math"
	"strings"
	"testing"

	"dataenclave/api"
	"dataenclave/example"
	"dataenclave/program"
)

func want(t *testing.T, name string, got, want any) {
	t.Helper()
	if fmt.Sprintf("%+v", got) != fmt.Sprintf("%+v", want) {
		t.Errorf("%s: got %+v, want %+v", name, got, want)
	}
}

func all() api.Cond { return api.Cond{Op: api.CondAll} }

func between(column, low, high int) api.Cond {
	return api.Cond{Op: api.CondBetween, Column: column, Low: low, High: high}
}

func number(n int) api.Expr { return api.Expr{Op: api.ExprInt, Num: n} }

func name(s string) api.Expr { return api.Expr{Op: api.ExprName, Name: s} }

func count(c api.Cond) api.Expr { return api.Expr{Op: api.ExprCount, Cond: c} }

func two(op int, a, b api.Expr) api.Expr { return api.Expr{Op: op, Kids: []api.Expr{a, b}} }

func deep(n int) api.Expr {
	e := number(1)
	for range n - 1 {
		e = two(api.ExprAdd, e, number(2))
	}
	return e
}

// wide has n expressions, n being odd.
func wide(n int) api.Expr {
	if n < 3 {
		return number(n)
	}
	half := (n - 1) / 2
	if half%2 == 0 {
		half--
	}
	return two(api.ExprMul, wide(half), wide(n-1-half))
}

func wrongSchema() api.Schema {
	s := example.Schema()
	s.Columns[1].Name = "person"
	return s
}

// each has an expression of each Op.
func each() []api.Expr {
	return []api.Expr{
		number(5), name("x"), count(all()),
		{Op: api.ExprSum, Column: 4, Cond: all()}, {Op: api.ExprMean, Column: 4, Cond: all()},
		two(api.ExprAdd, number(1), number(2)), two(api.ExprSub, number(1), number(2)), two(api.ExprMul, number(1), number(2)), two(api.ExprDiv, number(1), number(2)),
		{Op: api.ExprTable, Dims: example.Picks(1, 1), Column: 4, Cond: all()},
		{Op: api.ExprModel, Column: 4, Columns: []int{3}, Cond: all()},
		{Op: api.ExprCurve, Column: 5, Event: all(), Cond: all()},
		{Op: api.ExprHist, Column: 4, Num: 100, Cond: all()},
		{Op: api.ExprBox, Column: 4, Cond: all()},
	}
}

// checked returns what Check says of an expression, behind a statement x.
func checked(e api.Expr) string {
	return fmt.Sprint(program.Check(example.Schema(), []api.Statement{{Name: "x", Expr: number(0)}, {Name: "y", Expr: e}}))
}

// TestRight is about P16.1: fields that an Op uses, and others.
func TestRight(t *testing.T) {
	changes := []struct {
		uses   string
		change func(e *api.Expr)
	}{
		{"iH", func(e *api.Expr) { e.Num++ }}, {"n", func(e *api.Expr) { e.Name = "x" }}, {"smTMCHB", func(e *api.Expr) { e.Column++ }}, {"M", func(e *api.Expr) { e.Columns = []int{3} }},
		{"T", func(e *api.Expr) { e.Dims = example.Picks(1, 1) }}, {"csmTMCHB", func(e *api.Expr) { e.Cond = all() }}, {"C", func(e *api.Expr) { e.Event = all() }}, {"+-*/", func(e *api.Expr) { e.Kids = []api.Expr{number(1), number(2)} }},
		{"csmTMCHB", func(e *api.Expr) { e.Cond.Kids = []api.Cond{} }}, {"", func(e *api.Expr) { e.Event.Code = 1 }},
	}
	for i, letter := range "incsm+-*/TMCHB" {
		want(t, fmt.Sprint("right ", i), checked(each()[i]), "2 0")
		for k, c := range changes {
			e := each()[i]
			c.change(&e)
			if !strings.ContainsRune(c.uses, letter) && k != 8 {
				want(t, fmt.Sprint("expression ", i, " with change ", k), checked(e), fmt.Sprint(1, api.ErrForm))
			}
		}
		empty := each()[i]
		empty.Columns, empty.Dims, empty.Kids = append([]int{}, empty.Columns...), append([]api.Pick{}, empty.Dims...), append([]api.Expr{}, empty.Kids...)
		want(t, fmt.Sprint("empty lists ", i), checked(empty), "2 0")
	}
}

// TestWrong is about P16.1: expressions that are not right.
func TestWrong(t *testing.T) {
	type x = api.Expr
	of := func(n int, change func(e *x)) x {
		e := each()[n]
		change(&e)
		return e
	}
	var wrong []x
	for _, op := range []int{0, -1, 15, math.MinInt, math.MaxInt} {
		wrong = append(wrong, x{Op: op})
	}
	wrong = append(wrong, number(api.MaxInt+1), number(-api.MaxInt-1), number(math.MinInt), name(""), name("X"), name("all"), name("to"))
	for _, n := range []int{2, 3, 4, 9, 10, 11, 12, 13} {
		wrong = append(wrong, of(n, func(e *x) { e.Cond = api.Cond{} }), of(n, func(e *x) { e.Cond = between(3, 2, 1) }))
		for _, column := range []int{0, 1, 7, -2} {
			if n > 2 {
				wrong = append(wrong, of(n, func(e *x) { e.Column = column }))
			}
		}
	}
	for _, n := range []int{3, 4, 10, 11, 12, 13} {
		wrong = append(wrong, of(n, func(e *x) { e.Column = -1 }))
	}
	for _, n := range []int{5, 6, 7, 8} {
		wrong = append(wrong, of(n, func(e *x) { e.Kids = e.Kids[:1] }), of(n, func(e *x) { e.Kids = nil }), of(n, func(e *x) { e.Kids = append(e.Kids, number(3)) }), of(n, func(e *x) { e.Kids[0] = x{} }), of(n, func(e *x) { e.Kids[1] = name("On") }))
		for _, kid := range each()[9:] {
			wrong = append(wrong, of(n, func(e *x) { e.Kids[0] = kid }), of(n, func(e *x) { e.Kids[1] = kid }))
		}
	}
	for _, dims := range [][]int{{}, {1, 0, 2, 0, 6, 0, 1, 1}, {1, 3}, {1, -1}, {3, 1}, {0, 0}, {7, 0}, {-1, 0}, {1, 0, 1, 1}, {1, 0, 2, 1, 1, 0}} {
		wrong = append(wrong, of(9, func(e *x) { e.Dims = example.Picks(dims...) }))
	}
	for _, columns := range [][]int{{}, {3, 5, 3}, {4}, {3, 4}, {1}, {3, 0}, {9}, {-1}, {3, 5, 3, 5}} {
		wrong = append(wrong, of(10, func(e *x) { e.Columns = columns }))
	}
	wrong = append(wrong, of(11, func(e *x) { e.Column = 4 }), of(11, func(e *x) { e.Event = api.Cond{} }), of(11, func(e *x) { e.Event = between(1, 1, 2) }))
	for _, width := range []int{0, 2, 10, 99, 101, 200, -1} {
		wrong = append(wrong, of(12, func(e *x) { e.Num = width }))
	}
	for _, e := range wrong {
		want(t, fmt.Sprintf("%+v", e), checked(e), fmt.Sprint(1, api.ErrForm))
	}
	right := []x{number(api.MaxInt), number(-api.MaxInt), of(9, func(e *x) { e.Column = -1 }), of(9, func(e *x) { e.Dims = example.Picks(6, 2, 1, 0, 2, 1) }), of(10, func(e *x) { e.Columns = []int{5, 3} }), of(12, func(e *x) { e.Num = 1 })}
	for _, kid := range each()[:9] {
		right = append(right, of(8, func(e *x) { e.Kids[0] = kid }), of(6, func(e *x) { e.Kids[1] = kid }))
	}
	for _, e := range right {
		want(t, fmt.Sprintf("%+v", e), checked(e), "2 0")
	}
	s := example.Schema()
	s.Columns[4] = api.Column{Name: "income", Kind: api.ColumnMeasure, High: 9, Widths: []int{1}}
	many := of(10, func(e *x) { e.Column, e.Columns = 4, []int{3, 5} })
	s.Columns = append(s.Columns, api.Column{Name: "more", Kind: api.ColumnMeasure, High: 9, Widths: []int{1}})
	many.Columns = append(many.Columns, 7)
	want(t, "three terms", fmt.Sprint(program.Check(s, []api.Statement{{Name: "y", Expr: many}})), "1 0")
	s.Columns[6] = api.Column{Name: "most", Kind: api.ColumnMeasure, High: 9, Widths: []int{1}}
	many.Columns = append(many.Columns, 6)
	want(t, "four terms", fmt.Sprint(program.Check(s, []api.Statement{{Name: "y", Expr: many}})), fmt.Sprint(0, api.ErrForm))
}

func statements(n int) []api.Statement {
	var l []api.Statement
	for i := range n {
		l = append(l, api.Statement{Name: fmt.Sprintf("s%d", i), Expr: number(i)})
	}
	return l
}

// TestCheck is about P16.1: the order of errors, and their numbers.
func TestCheck(t *testing.T) {
	s := example.Schema()
	endless := []api.Expr{{Op: api.ExprAdd}}
	endless[0].Kids = endless
	for _, c := range []struct {
		name string
		l    []api.Statement
		n    int
		e    api.Errno
	}{
		{"nothing", nil, 0, api.OK},
		{"30 statements", statements(30), 30, api.OK},
		{"31 statements", append(statements(30), api.Statement{}), -1, api.ErrLimit},
		{"no name", append(statements(2), api.Statement{Expr: number(1)}), 2, api.ErrName},
		{"a name before a limit", append(statements(2), api.Statement{Name: "to", Expr: endless[0]}), 2, api.ErrName},
		{"twice before a limit", append(statements(2), api.Statement{Name: "s0", Expr: endless[0]}), 2, api.ErrDuplicate},
		{"59 expressions", append(statements(2), api.Statement{Name: "x", Expr: wide(59)}), 3, api.OK},
		{"60 expressions, of which one is wrong", append(statements(2), api.Statement{Name: "x", Expr: api.Expr{Op: api.ExprMul, Kids: []api.Expr{wide(59)}}}), 2, api.ErrForm},
		{"61 expressions", append(statements(2), api.Statement{Name: "x", Expr: wide(61)}), 2, api.ErrLimit},
		{"endless", append(statements(2), api.Statement{Name: "x", Expr: endless[0]}), 2, api.ErrLimit},
		{"too many and too deep", append(statements(2), api.Statement{Name: "x", Expr: deep(31)}), 2, api.ErrLimit},
		{"10 deep", append(statements(2), api.Statement{Name: "x", Expr: deep(10)}), 3, api.OK},
		{"11 deep", append(statements(2), api.Statement{Name: "x", Expr: deep(11)}), 2, api.ErrDepth},
		{"deep before wrong", append(statements(2), api.Statement{Name: "x", Expr: two(api.ExprAdd, api.Expr{}, deep(10))}), 2, api.ErrDepth},
		{"wrong before missing", append(statements(2), api.Statement{Name: "x", Expr: two(api.ExprAdd, name("no"), api.Expr{})}), 2, api.ErrForm},
		{"missing", append(statements(2), api.Statement{Name: "x", Expr: two(api.ExprAdd, name("s1"), name("s2"))}), 2, api.ErrMissing},
		{"itself is missing", append(statements(2), api.Statement{Name: "x", Expr: name("x")}), 2, api.ErrMissing},
		{"a later one is missing", []api.Statement{{Name: "x", Expr: name("y")}, {Name: "y", Expr: number(1)}}, 0, api.ErrMissing},
		{"named", append(statements(2), api.Statement{Name: "x", Expr: two(api.ExprSub, two(api.ExprAdd, name("s0"), number(1)), name("s1"))}), 3, api.OK},
		{"missing within", append(statements(2), api.Statement{Name: "x", Expr: two(api.ExprSub, two(api.ExprAdd, name("no"), number(1)), name("s1"))}), 2, api.ErrMissing},
		{"the first statement with an error", []api.Statement{{Name: "x", Expr: name("y")}, {}}, 0, api.ErrMissing},
	} {
		n, e := program.Check(s, c.l)
		want(t, c.name, fmt.Sprint(n, e), fmt.Sprint(c.n, c.e))
	}
	n, e := program.Check(wrongSchema(), statements(31))
	want(t, "a wrong schema first", fmt.Sprint(n, e), fmt.Sprint(-1, api.ErrDuplicate))
}

// TestText is about P16.2: texts of expressions, and back.
func TestText(t *testing.T) {
	s := example.Schema()
	l := []api.Statement{}
	var text string
	for i, x := range []string{
		"5", "x0", "count(all)", "sum(income; all)", "mean(income; all)", "(1 + 2)", "(1 - 2)", "(1 * 2)", "(1 / 2)",
		"table(area/1; income; all)", "model(income; age; all)", "curve(weeks; all; all)", "hist(income; 100; all)", "box(income; all)",
	} {
		e := each()[i]
		if i == 1 {
			e = name("x0")
		}
		l = append(l, api.Statement{Name: fmt.Sprintf("x%d", i), Out: i%2 == 1, Expr: e})
		text += []string{"let", "out"}[i%2] + fmt.Sprintf(" x%d = %s\n", i, x)
	}
	got, e := program.Print(s, l)
	want(t, "print", fmt.Sprint(got, e), fmt.Sprint(text, api.OK))
	back, line, e := program.Parse(s, text)
	want(t, "parse", fmt.Sprint(line, e), "0 0")
	want(t, "program", back, l)
	back, line, e = program.Parse(s, example.Text)
	want(t, "parse", fmt.Sprint(line, e), "0 0")
	got, e = program.Print(s, back)
	want(t, "the example", fmt.Sprint(got, e), fmt.Sprint(example.Text, api.OK))
	want(t, "a part of it", back[9].Expr, api.Expr{Op: api.ExprHist, Column: 4, Num: 100, Cond: all()})
	back, line, e = program.Parse(s, "out n = (count(all) - 1)\n")
	want(t, "the chapter's example", fmt.Sprintf("%+v %d %d", back, line, e), fmt.Sprintf("%+v 0 0", []api.Statement{{Name: "n", Out: true, Expr: two(api.ExprSub, count(all()), number(1))}}))
	back, line, e = program.Parse(s, "")
	want(t, "an empty program", fmt.Sprint(back, line, e), "[] 0 0")
	back, line, e = program.Parse(s, "let count = 1\nlet sum = (count + -3)\nlet table = sum\n")
	want(t, "words that are names", fmt.Sprint(len(back), line, e), "3 0 0")
}

// TestPrintErrors is about P16.2.
func TestPrintErrors(t *testing.T) {
	s := example.Schema()
	for _, c := range []struct {
		s api.Schema
		l []api.Statement
		e api.Errno
	}{{wrongSchema(), nil, api.ErrDuplicate}, {s, statements(31), api.ErrLimit}, {s, []api.Statement{{}}, api.ErrName}, {s, nil, api.OK}} {
		text, e := program.Print(c.s, c.l)
		want(t, "print", fmt.Sprint(text, e), fmt.Sprint("", c.e))
	}
}

// sum is a sum of n counts, as deep as it has to be.
func sum(n int) api.Expr {
	if n == 1 {
		return count(between(4, -api.MaxMeasure, -api.MaxMeasure))
	}
	return two(api.ExprAdd, sum(n/2), sum(n-n/2))
}

// long is a program with a text of so many bytes: sums of counts, and at last numbers whose digits are what is left.
func long(bytes int) []api.Statement {
	var l []api.Statement
	for i := range api.MaxStatements {
		l = append(l, api.Statement{Name: fmt.Sprintf("s%d", i), Expr: two(api.ExprAdd, sum(1), number(1))})
	}
	left := func() int {
		text, _ := program.Print(example.Schema(), l)
		return bytes - len(text)
	}
	for n := 2; n < 29; n++ {
		for i := range l {
			if left() > 200 {
				l[i].Expr = two(api.ExprAdd, sum(n), number(1))
			}
		}
	}
	for more, i := left(), 0; more > 0; i++ {
		digits := min(more, 12)
		l[i].Expr.Kids[1].Num = int(math.Pow10(digits))
		more -= digits
	}
	return l
}

// TestLimit is about P16.2: texts of just api.MaxText bytes, and longer ones.
func TestLimit(t *testing.T) {
	s := example.Schema()
	text, e := program.Print(s, long(api.MaxText))
	want(t, "just so long", fmt.Sprint(len(text), e), fmt.Sprint(api.MaxText, api.OK))
	_, line, e := program.Parse(s, text)
	want(t, "it can be read", fmt.Sprint(line, e), "0 0")
	n, e := program.Check(s, long(api.MaxText+1))
	want(t, "a byte more is right", fmt.Sprint(n, e), "30 0")
	_, e = program.Print(s, long(api.MaxText+1))
	want(t, "a byte more", e, api.ErrLimit)
	_, line, e = program.Parse(s, text+"\n")
	want(t, "a byte more to read", fmt.Sprint(line, e), fmt.Sprint(0, api.ErrLimit))
}

// TestParseForm is about P16.2: lines that have not the form, or whose expression is not right.
func TestParseForm(t *testing.T) {
	for _, line := range []string{
		"", " ", "x", "let", "let a", "let a = ", "let a =1", "let a= 1", "let  a = 1", "let a  = 1", "let a =  1", "let a = 1 ", " let a = 1", "Let a = 1", "set a = 1", "let a b = 1", "let = 1", "let  = 1", "out a = 1 + 1",
		"let a = 01", "let a = -0", "let a = +1", "let a = 1.5", "let a = 1099511627777", "let a = 9999999999999999999", "let a = --1", "let a = B", "let a = on", "let a = all", "let a = b c", "let a = \xff", "let a = a-1",
		"let a = ()", "let a = (1)", "let a = (1 + )", "let a = ( + 1)", "let a = (1 + 2", "let a = 1 + 2)", "let a = (1 + 2))", "let a = ((1 + 2)", "let a = (1+2)", "let a = (1  + 2)", "let a = (1 % 2)", "let a = (1 + 2 + 3)", "let a = (1 + table(area/1; -; all))", "let a = (box(age; all) * 2)",
		"let a = count()", "let a = count(none)", "let a = count(all", "let a = count(all))", "let a = count (all)", "let a = count(all; all)", "let a = counts(all)", "let a = count((all))", "let a = (all)", "let a = count(age from 2 to 1)",
		"let a = sum(all)", "let a = sum(income, all)", "let a = sum(income;all)", "let a = sum(income;  all)", "let a = sum(income ; all)", "let a = sum(area; all)", "let a = sum(no; all)", "let a = sum(-; all)", "let a = sum(person; all)", "let a = sum(income; income; all)", "let a = mean(all)", "let a = mean(sex; all)", "let a = mean(; all)",
		"let a = table(; -; all)", "let a = table(area; -; all)", "let a = table(area/; -; all)", "let a = table(area/01; -; all)", "let a = table(area/3; -; all)", "let a = table(area/-1; -; all)", "let a = table(/1; -; all)", "let a = table(age/1; -; all)", "let a = table(no/1; -; all)", "let a = table(area/1,sex/1; -; all)", "let a = table(area/1, area/2; -; all)", "let a = table(area/1, sex/1, kind/1, area/1; -; all)", "let a = table(area/1; sex; all)", "let a = table(area/1; no; all)", "let a = table(area/1; all)", "let a = table(area/1; -; -; all)", "let a = table(area/1; -)",
		"let a = model(income; ; all)", "let a = model(income; income; all)", "let a = model(income; age, age; all)", "let a = model(income; age,weeks; all)", "let a = model(income; no; all)", "let a = model(no; age; all)", "let a = model(-; age; all)", "let a = model(income; area; all)", "let a = model(income; all)",
		"let a = curve(weeks; all)", "let a = curve(income; all; all)", "let a = curve(weeks; no; all)", "let a = curve(weeks; all; no)", "let a = curve(no; all; all)",
		"let a = hist(income; 50; all)", "let a = hist(income; 0100; all)", "let a = hist(income; x; all)", "let a = hist(income; all)", "let a = hist(sex; 1; all)", "let a = box(all)", "let a = box(area; all)", "let a = box(-; all)",
		"let a = " + strings.Repeat("(", 9000), "let a = " + strings.Repeat("count(", 2000),
	} {
		l, at, e := program.Parse(example.Schema(), "let ok = 1\n"+line+"\nnext\n")
		want(t, line[:min(len(line), 60)], fmt.Sprint(l, at, e), fmt.Sprint([]api.Statement{}, 2, api.ErrForm))
	}
	for _, c := range []struct {
		text string
		line int
	}{{"let a = 1", 1}, {"let a = 1\nlet b = 2", 2}, {"\n", 1}, {"let a = 1\n\n", 2}, {"let a = 1\r\n", 1}} {
		l, at, e := program.Parse(example.Schema(), c.text)
		want(t, c.text, fmt.Sprint(l, at, e), fmt.Sprint([]api.Statement{}, c.line, api.ErrForm))
	}
}

// TestParseCheck is about P16.2: the errors of Check, with the lines of their statements.
func TestParseCheck(t *testing.T) {
	for _, c := range []struct {
		text string
		line int
		e    api.Errno
	}{
		{"let a = 1\nlet B = 2\n", 2, api.ErrName},
		{"let to = 1\n", 1, api.ErrName},
		{"let = = 1\n", 1, api.ErrName},
		{"let B = 1\nwrong\n", 2, api.ErrForm},
		{"let a = 1\nout a = 2\n", 2, api.ErrDuplicate},
		{"let a = b\nlet b = 2\n", 1, api.ErrMissing},
		{"let a = " + strings.Repeat("(", 10) + "1" + strings.Repeat(" + 1)", 10) + "\n", 1, api.ErrDepth},
		{"let a = " + strings.Repeat("(", 30) + "1" + strings.Repeat(" + 1)", 30) + "\n", 1, api.ErrLimit},
		{"let a = " + strings.Repeat("(", 2800) + "1" + strings.Repeat(" + 1)", 2800) + "\n", 1, api.ErrLimit},
	} {
		l, at, e := program.Parse(example.Schema(), c.text)
		want(t, c.text[:min(len(c.text), 60)], fmt.Sprint(l, at, e), fmt.Sprint([]api.Statement{}, c.line, c.e))
	}
	text := ""
	for i := range 31 {
		text += fmt.Sprintf("let s%d = 1\n", i)
	}
	l, at, e := program.Parse(example.Schema(), text)
	want(t, "31 statements", fmt.Sprint(l, at, e), fmt.Sprint([]api.Statement{}, 0, api.ErrLimit))
	l, at, e = program.Parse(example.Schema(), text[:strings.LastIndex(text, "let")])
	want(t, "30 statements", fmt.Sprint(len(l), at, e), "30 0 0")
	l, at, e = program.Parse(wrongSchema(), "x")
	want(t, "a wrong schema first", fmt.Sprint(l, at, e), fmt.Sprint([]api.Statement{}, 0, api.ErrDuplicate))
}
