package script_test

import (
	"fmt"
	"math"
	"strings"
	"testing"

	"dataenclave/api"
	"dataenclave/declaration"
	"dataenclave/example"
	"dataenclave/program"
	"dataenclave/script"
)

func want(t *testing.T, name string, got, want any) {
	t.Helper()
	if fmt.Sprintf("%+v", got) != fmt.Sprintf("%+v", want) {
		t.Errorf("%s: got %+v, want %+v", name, got, want)
	}
}

func parse(t *testing.T, text string) []api.Statement {
	t.Helper()
	l, line, e := program.Parse(example.Schema(), text)
	if e != api.OK {
		t.Fatal(text, line, e)
	}
	return l
}

func wrongSchema() api.Schema {
	s := example.Schema()
	s.Columns[1].Name = "person"
	return s
}

const before = "let a = count(all)\nout b = (a + 1)\n"

// events has an event of each line, and texts their lines.
func events(t *testing.T) ([]api.Event, []string) {
	t.Helper()
	declared, _ := declaration.Print(example.Schema(), example.Declaration())
	edit := func(e api.Edit) api.Event { return api.Event{Kind: api.EventEdit, Edit: e} }
	command := func(c api.Command) api.Event {
		return api.Event{Kind: api.EventCommand, Project: "trial", Command: c}
	}
	return []api.Event{
		{Kind: api.EventTime, Number: 5},
		edit(api.Edit{Kind: api.EditAdd, Row: []int{7, -3, 0, api.Missing}}),
		edit(api.Edit{Kind: api.EditReplace, Row: []int{7}}),
		edit(api.Edit{Kind: api.EditRemove, Id: 9}),
		edit(api.Edit{Kind: api.EditWithdraw, Id: -9}),
		{Kind: api.EventApprove, Approval: api.Approval{Project: "trial", Researcher: "cyd", From: 0, Until: 90}},
		{Kind: api.EventEnd, Project: "trial"},
		{Kind: api.EventDeclare, Number: 77, Declaration: example.Declaration()},
		command(api.Command{Kind: api.CommandLet, Statement: parse(t, before+"out c = table(area/1; income; sex under f)\n")[2]}),
		command(api.Command{Kind: api.CommandUndo}),
		command(api.Command{Kind: api.CommandClose}),
		command(api.Command{Kind: api.CommandAsk, Name: "b"}),
		{Kind: api.EventRefresh, Project: "trial"},
		{Kind: api.EventSubmit, Project: "trial", Name: "b"},
		{Kind: api.EventSign, Number: 1, Person: "ann", Text: "output b number\n\nvalue 1/2\n"},
		{Kind: api.EventRefuse, Number: 1, Person: "ann"},
		{Kind: api.EventRelease, Number: 1},
		{Kind: api.EventWithdraw, Number: 2},
		{Kind: api.EventSupersede, Of: 1, Number: 2},
		{Kind: api.EventShift, Shift: api.Shift{Person: "ann", From: 1, Until: 2}},
	}, []string{
		"time 5\n", "add 7 -3 0 -1099511627776\n", "replace 7\n", "remove 9\n", "withdraw -9\n", "approve trial cyd 0 90\n", "end trial\n",
		"declare 77 8\n" + declared, "let trial 3\n" + before + "out c = table(area/1; income; sex under f)\n",
		"undo trial\n", "close trial\n", "ask trial b\n", "refresh trial\n", "submit trial b\n", "sign 1 ann 3\noutput b number\n\nvalue 1/2\n", "refuse 1 ann\n", "release 1\n", "drop 2\n", "supersede 1 2\n", "shift ann 1 2\n",
	}
}

// TestLines is about P41.1 and P41.2: each line, there and back.
func TestLines(t *testing.T) {
	s := example.Schema()
	l, texts := events(t)
	for i, e := range l {
		text, err := script.Print(s, parse(t, before), e)
		want(t, fmt.Sprint("print ", i), fmt.Sprint(text, err), fmt.Sprint(texts[i], api.OK))
		back, line, err := script.Parse(s, texts[i])
		want(t, fmt.Sprint("parse ", i), fmt.Sprintf("%+v %d %d", back, line, err), fmt.Sprintf("%+v %d %d", []api.Event{e}, 0, api.OK))
		want(t, "the same", script.Same(back[0], e), true)
	}
	all := strings.Join(texts, "")
	back, line, err := script.Parse(s, all)
	want(t, "one behind the other", fmt.Sprintf("%+v %d %d", back, line, err), fmt.Sprintf("%+v %d %d", l, 0, api.OK))
	back, line, err = script.Parse(s, "")
	want(t, "nothing", fmt.Sprint(back, line, err), "[] 0 0")
	back, line, err = script.Parse(s, "time 5\nask p n\n")
	want(t, "the chapter's example", fmt.Sprint(len(back), line, err), "2 0 0")
	back, _, _ = script.Parse(s, "sign 1 ann 1\nx\n")
	want(t, "the chapter's other example", back[0].Text, "x\n")
	text, err := script.Print(wrongSchema(), nil, l[0])
	want(t, "most events need no schema", fmt.Sprint(text, err), fmt.Sprint("time 5\n", api.OK))
}

// TestPrintErrors is about P41.1: errors, of which the first one counts.
func TestPrintErrors(t *testing.T) {
	type ev = api.Event
	l, _ := events(t)
	with := func(n int, change func(e *ev)) ev {
		e := l[n]
		change(&e)
		return e
	}
	const most = api.MaxInt
	wrong := example.Declaration()
	wrong.Questions = nil
	for i, c := range []struct {
		e   ev
		err api.Errno
	}{
		{ev{}, api.ErrKind}, {ev{Kind: 15}, api.ErrKind}, {ev{Kind: -1}, api.ErrKind}, {ev{Kind: api.EventEdit}, api.ErrKind}, {ev{Kind: api.EventEdit, Edit: api.Edit{Kind: 5}}, api.ErrKind}, {ev{Kind: api.EventCommand}, api.ErrKind}, {ev{Kind: api.EventCommand, Command: api.Command{Kind: api.CommandChange}}, api.ErrKind}, {ev{Kind: api.EventCommand, Command: api.Command{Kind: 6}}, api.ErrKind},
		{with(5, func(e *ev) { e.Approval.Project, e.Approval.From = "", most+1 }), api.ErrName}, {with(5, func(e *ev) { e.Approval.Researcher = "X" }), api.ErrName}, {with(6, func(e *ev) { e.Project = "to" }), api.ErrName}, {with(8, func(e *ev) { e.Project = "" }), api.ErrName}, {with(9, func(e *ev) { e.Project, e.Number = "", 5 }), api.ErrName}, {with(10, func(e *ev) { e.Project = "" }), api.ErrName}, {with(11, func(e *ev) { e.Project = "" }), api.ErrName}, {with(11, func(e *ev) { e.Command.Name = "" }), api.ErrName}, {with(12, func(e *ev) { e.Project = "" }), api.ErrName}, {with(13, func(e *ev) { e.Name = "a b" }), api.ErrName}, {with(14, func(e *ev) { e.Person, e.Number = "", most+1 }), api.ErrName}, {with(15, func(e *ev) { e.Person = "on" }), api.ErrName}, {with(19, func(e *ev) { e.Shift.Person = "" }), api.ErrName},
		{with(0, func(e *ev) { e.Number, e.Of = most+1, 1 }), api.ErrRange}, {with(0, func(e *ev) { e.Number = -most - 1 }), api.ErrRange}, {with(0, func(e *ev) { e.Number = most }), api.OK}, {with(0, func(e *ev) { e.Number = -most }), api.OK}, {with(1, func(e *ev) { e.Edit.Row = []int{1, 2, 3, 4, 5, 6, 7, 8, math.MinInt} }), api.ErrRange}, {with(2, func(e *ev) { e.Edit.Row = []int{most + 1} }), api.ErrRange}, {with(3, func(e *ev) { e.Edit.Id, e.Edit.Row = most+1, []int{1} }), api.ErrRange}, {with(5, func(e *ev) { e.Approval.From = most + 1 }), api.ErrRange}, {with(5, func(e *ev) { e.Approval.Until = most + 1 }), api.ErrRange}, {with(7, func(e *ev) { e.Number, e.Declaration = most+1, api.Declaration{} }), api.ErrRange}, {with(14, func(e *ev) { e.Number, e.Text = most+1, "" }), api.ErrRange}, {with(18, func(e *ev) { e.Of = most + 1 }), api.ErrRange}, {with(18, func(e *ev) { e.Number = most + 1 }), api.ErrRange}, {with(19, func(e *ev) { e.Shift.Until = -most - 1 }), api.ErrRange}, {with(17, func(e *ev) { e.Number = most + 1 }), api.ErrRange},
		{with(1, func(e *ev) { e.Edit.Row = nil }), api.ErrForm}, {with(2, func(e *ev) { e.Edit.Row = make([]int, 9) }), api.ErrForm}, {with(2, func(e *ev) { e.Edit.Row = make([]int, 8) }), api.OK}, {with(14, func(e *ev) { e.Text = "" }), api.ErrForm}, {with(14, func(e *ev) { e.Text = "x\ny" }), api.ErrForm}, {with(14, func(e *ev) { e.Text = "\n" }), api.OK},
		{with(7, func(e *ev) { e.Declaration, e.Of = wrong, 1 }), api.ErrForm}, {with(7, func(e *ev) { e.Declaration = wrong }), api.ErrLimit},
		{with(8, func(e *ev) { e.Command.Statement.Name, e.Command.Name = "to", "x" }), api.ErrForm}, {with(8, func(e *ev) { e.Command.Statement.Name = "to" }), api.ErrName}, {with(8, func(e *ev) { e.Command.Statement.Name = "b" }), api.ErrDuplicate}, {with(8, func(e *ev) { e.Command.Statement.Expr = api.Expr{Op: api.ExprName, Name: "z"} }), api.ErrMissing},
		{with(14, func(e *ev) { e.Text = strings.Repeat("x\n", (api.MaxText-len("sign 1 ann 9992\n"))/2) }), api.OK}, {with(14, func(e *ev) { e.Text = "y" + strings.Repeat("x\n", (api.MaxText-len("sign 1 ann 9992\n"))/2) }), api.ErrLimit},
	} {
		text, err := script.Print(example.Schema(), parse(t, before), c.e)
		want(t, fmt.Sprint(i), err, c.err)
		want(t, fmt.Sprint(i), text != "", err == api.OK)
	}
	_, err := script.Print(wrongSchema(), nil, l[7])
	want(t, "a declaration for a wrong schema", err, api.ErrDuplicate)
	_, err = script.Print(wrongSchema(), nil, l[8])
	want(t, "a program for a wrong schema", err, api.ErrDuplicate)
	_, err = script.Print(example.Schema(), nil, l[8])
	want(t, "a statement without a program", err, api.OK)
}

// changes set one field of an event each.
func changes() []func(e *api.Event) {
	type ev = api.Event
	return []func(e *ev){
		func(e *ev) { e.Number++ }, func(e *ev) { e.Of++ }, func(e *ev) { e.Project += "x" }, func(e *ev) { e.Name += "x" }, func(e *ev) { e.Person += "x" }, func(e *ev) { e.Text += "x\n" },
		func(e *ev) { e.Edit.Kind++ }, func(e *ev) { e.Edit.Id++ }, func(e *ev) { e.Edit.Row = append(append([]int{}, e.Edit.Row...), 1) },
		func(e *ev) { e.Approval.Project += "x" }, func(e *ev) { e.Approval.Researcher += "x" }, func(e *ev) { e.Approval.From++ }, func(e *ev) { e.Approval.Until++ },
		func(e *ev) { e.Shift.Person += "x" }, func(e *ev) { e.Shift.From++ }, func(e *ev) { e.Shift.Until++ },
		func(e *ev) { e.Declaration.Project += "x" }, func(e *ev) { e.Declaration.Source += "x" }, func(e *ev) { e.Declaration.Sample.Seed++ }, func(e *ev) { e.Declaration.Cohort.High-- }, func(e *ev) { e.Declaration.Cohort.Low++ }, func(e *ev) { e.Declaration.Cohort.Column++ }, func(e *ev) { e.Declaration.Cohort.Code++ }, func(e *ev) { e.Declaration.Cohort.Op++ }, func(e *ev) { e.Declaration.Cohort.Kids = make([]api.Cond, 1) },
		func(e *ev) {
			e.Declaration.Questions = append(append([]api.Question{}, e.Declaration.Questions...), api.Question{})
		},
		func(e *ev) { q := question(e); q.Name += "x" }, func(e *ev) { q := question(e); q.Kind++ }, func(e *ev) { q := question(e); q.Measure++ }, func(e *ev) { q := question(e); q.Dims = example.Picks(1, 1) }, func(e *ev) { q := question(e); q.Terms = []int{9} }, func(e *ev) { q := question(e); q.Filter.Code++ }, func(e *ev) { q := question(e); q.Event.Code++ },
		func(e *ev) { e.Command.Kind++ }, func(e *ev) { e.Command.Name += "x" }, func(e *ev) { e.Command.Change.Version++ }, func(e *ev) { e.Command.Change.Gone = []int{1} }, func(e *ev) { e.Command.Change.Rows = [][]int{{1}} },
		func(e *ev) { e.Command.Statement.Name += "x" }, func(e *ev) { e.Command.Statement.Out = !e.Command.Statement.Out }, func(e *ev) { x := &e.Command.Statement.Expr; x.Op++ }, func(e *ev) { x := &e.Command.Statement.Expr; x.Num++ }, func(e *ev) { x := &e.Command.Statement.Expr; x.Name += "x" }, func(e *ev) { x := &e.Command.Statement.Expr; x.Column++ }, func(e *ev) { x := &e.Command.Statement.Expr; x.Columns = []int{1} }, func(e *ev) { x := &e.Command.Statement.Expr; x.Dims = example.Picks(2, 1) }, func(e *ev) { x := &e.Command.Statement.Expr; x.Cond.Code++ }, func(e *ev) { x := &e.Command.Statement.Expr; x.Event.Code++ }, func(e *ev) { x := &e.Command.Statement.Expr; x.Kids = make([]api.Expr, 1) },
	}
}

// question copies the questions of an event, and returns the last one, or a new one.
func question(e *api.Event) *api.Question {
	e.Declaration.Questions = append([]api.Question{}, e.Declaration.Questions...)
	if len(e.Declaration.Questions) == 0 {
		e.Declaration.Questions = make([]api.Question, 1)
	}
	return &e.Declaration.Questions[len(e.Declaration.Questions)-1]
}

// TestSame is about P41.3: each field counts; and about P41.1: a field that the line does not have must be zero.
func TestSame(t *testing.T) {
	l, _ := events(t)
	for i, e := range l {
		again, _ := events(t)
		for k, other := range again {
			want(t, fmt.Sprint(i, k), script.Same(e, other), i == k)
		}
		for k, change := range changes() {
			changed := again[i]
			change(&changed)
			want(t, fmt.Sprint("event ", i, " change ", k), fmt.Sprint(script.Same(e, changed), script.Same(changed, e)), "false false")
			text, err := script.Print(example.Schema(), parse(t, before), changed)
			if err == api.OK { // the field is one of the line: what is read has it, too
				back, _, _ := script.Parse(example.Schema(), text)
				want(t, fmt.Sprint("event ", i, " change ", k, " and back"), len(back) == 1 && script.Same(back[0], changed), true)
			}
		}
	}
	a, b := api.Event{Kind: 1}, api.Event{Kind: 2}
	want(t, "kinds", script.Same(a, b), false)
	b = api.Event{Kind: 1, Edit: api.Edit{Row: []int{}}, Declaration: api.Declaration{Questions: []api.Question{}}}
	want(t, "empty lists", script.Same(a, b), true)
	c, d := api.Event{}, api.Event{}
	c.Command.Statement.Expr.Kids = []api.Expr{{Kids: []api.Expr{{Num: 1}}}}
	d.Command.Statement.Expr.Kids = []api.Expr{{Kids: []api.Expr{{Num: 2}}}}
	want(t, "deep in an expression", script.Same(c, d), false)
	c, d = api.Event{}, api.Event{}
	c.Declaration.Cohort.Kids = []api.Cond{{Kids: []api.Cond{{Low: 1}}}}
	d.Declaration.Cohort.Kids = []api.Cond{{Kids: []api.Cond{{Low: 2}}}}
	want(t, "deep in a condition", script.Same(c, d), false)
}

// TestUnused is about P41.1: in a time line no other field than Number can stand.
func TestUnused(t *testing.T) {
	for i, change := range changes()[1:] {
		e := api.Event{Kind: api.EventTime, Number: 5}
		change(&e)
		_, err := script.Print(example.Schema(), nil, e)
		want(t, fmt.Sprint("change ", i), err, api.ErrForm)
	}
}

// TestParseErrors is about P41.2: the event with the first error, and the line at which it begins.
func TestParseErrors(t *testing.T) {
	_, texts := events(t)
	declared := texts[7]
	for _, c := range []struct {
		text string
		line int
		e    api.Errno
	}{
		{"\n", 1, api.ErrForm}, {"x\n", 1, api.ErrForm}, {"time\n", 1, api.ErrForm}, {"time 5", 1, api.ErrForm}, {"time 5\ntime 6", 2, api.ErrForm}, {"time 5 6\n", 1, api.ErrForm}, {"time  5\n", 1, api.ErrForm}, {"time 5 \n", 1, api.ErrForm}, {" time 5\n", 1, api.ErrForm}, {"time 05\n", 1, api.ErrForm}, {"time x\n", 1, api.ErrForm}, {"time 1099511627777\n", 1, api.ErrForm}, {"time -1099511627777\n", 1, api.ErrForm}, {"Time 5\n", 1, api.ErrForm}, {"time 5\n\n", 2, api.ErrForm},
		{"add\n", 1, api.ErrForm}, {"add 1 2 3 4 5 6 7 8 9\n", 1, api.ErrForm}, {"add 1 x\n", 1, api.ErrForm}, {"add 1 1099511627777\n", 1, api.ErrForm}, {"replace\n", 1, api.ErrForm}, {"remove\n", 1, api.ErrForm}, {"remove 1 2\n", 1, api.ErrForm}, {"withdraw x\n", 1, api.ErrForm}, {"change 5\n", 1, api.ErrForm},
		{"approve p r 1\n", 1, api.ErrForm}, {"approve p R 1 2\n", 1, api.ErrForm}, {"approve to r 1 2\n", 1, api.ErrForm}, {"approve p r x 2\n", 1, api.ErrForm}, {"approve p r 1 2 3\n", 1, api.ErrForm}, {"end\n", 1, api.ErrForm}, {"end p q\n", 1, api.ErrForm}, {"undo P\n", 1, api.ErrForm}, {"close\n", 1, api.ErrForm}, {"ask p\n", 1, api.ErrForm}, {"ask p n m\n", 1, api.ErrForm}, {"ask p on\n", 1, api.ErrForm}, {"refresh\n", 1, api.ErrForm}, {"submit p\n", 1, api.ErrForm}, {"submit p N\n", 1, api.ErrForm},
		{"sign 1 ann\n", 1, api.ErrForm}, {"sign 1 ann 0\n", 1, api.ErrForm}, {"sign 1 ann -1\n", 1, api.ErrForm}, {"sign 1 ann 1\n", 1, api.ErrForm}, {"sign 1 ann 1\nx", 1, api.ErrForm}, {"time 1\nsign 1 ann 2\nx\n", 2, api.ErrForm}, {"sign 1 ann 1 1\nx\n", 1, api.ErrForm}, {"sign 1 Ann 1\nx\n", 1, api.ErrForm}, {"sign ann 1 1\nx\n", 1, api.ErrForm}, {"sign 1 ann 1\nx\nx\n", 3, api.ErrForm}, {"sign 1 ann 1099511627776\nx\n", 1, api.ErrForm}, {"sign 1 ann 01\nx\n", 1, api.ErrForm},
		{"refuse 1\n", 1, api.ErrForm}, {"refuse 1 ann 1\n", 1, api.ErrForm}, {"release\n", 1, api.ErrForm}, {"release x\n", 1, api.ErrForm}, {"drop\n", 1, api.ErrForm}, {"supersede 1\n", 1, api.ErrForm}, {"supersede 1 2 3\n", 1, api.ErrForm}, {"shift ann 1\n", 1, api.ErrForm}, {"shift 1 ann 2\n", 1, api.ErrForm}, {"shift ann 1 x\n", 1, api.ErrForm},
		{"declare 5\n", 1, api.ErrForm}, {"declare 5 0\n", 1, api.ErrForm}, {"declare 5 1\n", 1, api.ErrForm}, {"declare 5 1\nx\n", 1, api.ErrForm}, {"declare x 1\nx\n", 1, api.ErrForm}, {strings.Replace(declared, "77 8", "77 7", 1), 9, api.ErrForm}, {strings.Replace(declared, "77 8", "77 9", 1), 1, api.ErrForm}, {"time 1\n" + strings.Replace(declared, "project trial", "project Trial", 1), 2, api.ErrName}, {strings.Replace(declared, "77 8", "77 4", 1), 1, api.ErrLimit}, {strings.Replace(declared, "77 8", "77 8 8", 1), 1, api.ErrForm},
		{"let p\n", 1, api.ErrForm}, {"let p 0\n", 1, api.ErrForm}, {"let p 1\n", 1, api.ErrForm}, {"let p 1\nx\n", 1, api.ErrForm}, {"let p 2\nlet a = 1\nlet a = 2\n", 1, api.ErrDuplicate}, {"time 5\nlet p 1\nlet a = b\n", 2, api.ErrMissing}, {"let p 1\nlet a = 1\nlet b = 2\n", 3, api.ErrForm}, {"let p 1 1\nlet a = b\n", 1, api.ErrForm}, {"let P 1\nlet a = b\n", 1, api.ErrForm},
		{strings.Repeat("time 5\n", 200) + "x", 201, api.ErrLimit}, {strings.Repeat("time 5\n", 201), 201, api.ErrLimit}, {strings.Repeat("time 5\n", 100) + "sign 1 ann 1\nx\n" + strings.Repeat("time 5\n", 100), 202, api.ErrLimit}, {strings.Repeat("time 5\n", 199) + "x\ny\n", 200, api.ErrForm},
		{strings.Repeat("x", api.MaxText+1), 0, api.ErrLimit}, {strings.Repeat("x", api.MaxText), 1, api.ErrForm},
	} {
		l, line, e := script.Parse(example.Schema(), c.text)
		want(t, c.text[:min(60, len(c.text))], fmt.Sprint(l, line, e), fmt.Sprint([]api.Event{}, c.line, c.e))
	}
	eight, line, e := script.Parse(example.Schema(), "add 1 2 3 4 5 6 7 8\n")
	want(t, "eight numbers", fmt.Sprint(len(eight), line, e), "1 0 0")
	l, line, e := script.Parse(example.Schema(), strings.Repeat("time 5\n", 200))
	want(t, "200 events", fmt.Sprint(len(l), line, e), "200 0 0")
	_, line, e = script.Parse(wrongSchema(), "time 1\n"+declared)
	want(t, "a declaration for a wrong schema", fmt.Sprint(line, e), fmt.Sprint(2, api.ErrDuplicate))
	_, line, e = script.Parse(wrongSchema(), "let p 1\nlet a = 1\n")
	want(t, "a program for a wrong schema", fmt.Sprint(line, e), fmt.Sprint(1, api.ErrDuplicate))
	_, line, e = script.Parse(wrongSchema(), "time 1\n")
	want(t, "an event that needs no schema", fmt.Sprint(line, e), "0 0")
}
