package environment_test

import (
	"fmt"
	"math"
	"slices"
	"strings"
	"testing"

	"dataenclave/api"
	"dataenclave/cells"
	"dataenclave/declaration"
	"dataenclave/environment"
	"dataenclave/example"
	"dataenclave/extract"
	"dataenclave/minimise"
	"dataenclave/program"
	"dataenclave/recompute"
	"dataenclave/refresh"
	"dataenclave/room"
	"dataenclave/script"
	"dataenclave/source"
)

func want(t *testing.T, name string, got, want any) {
	t.Helper()
	if fmt.Sprintf("%+v", got) != fmt.Sprintf("%+v", want) {
		t.Errorf("%s: got %+v, want %+v", name, got, want)
	}
}

func schema() api.Schema { return example.SmallSchema() }

func people() api.Source { return example.People() }

func rules() api.Rules { return api.Rules{Least: 3, Percent: 90} }

const deadline = 50

func fresh(t *testing.T) api.Enclave {
	t.Helper()
	x, e := environment.New(people(), rules(), 7, deadline)
	want(t, "new", e, api.OK)
	return x
}

func declared(project, cohort, sample string) string {
	return example.Declared(project, cohort, sample)
}

// play carries out the events of a script, each of which must have no error, or the one that is given for its number.
func play(t *testing.T, x api.Enclave, text string, errors ...api.Errno) api.Enclave {
	t.Helper()
	l, line, e := script.Parse(schema(), text)
	if e != api.OK {
		t.Fatal(text, line, e)
	}
	for i, event := range l {
		should := api.OK
		if i < len(errors) {
			should = errors[i]
		}
		before := fmt.Sprintf("%+v", x)
		next, e := environment.Step(x, event)
		want(t, fmt.Sprintf("event %d of %q", i, text), e, should)
		want(t, "the environment before stays", fmt.Sprintf("%+v", x), before)
		if e != api.OK {
			want(t, "nothing has changed", next, x)
		}
		want(t, "it is valid", environment.Check(next), api.OK)
		x = next
	}
	return x
}

// started has a project p of cyd, with two checkers on duty.
func started(t *testing.T) api.Enclave {
	t.Helper()
	return play(t, fresh(t), example.Start())
}

const areas = "let p 1\nout areas = table(area/1; -; all)\nask p areas\nsubmit p areas\n"

// signed is the text of the signatures of ann and bob for an output.
func signed(t *testing.T, x api.Enclave, number int) string {
	t.Helper()
	text := x.Outputs[number-1].Text
	lines := strings.Count(text, "\n")
	return fmt.Sprintf("sign %d ann %d\n%ssign %d bob %d\n%s", number, lines, text, number, lines, text)
}

// TestNew is about P42.1.
func TestNew(t *testing.T) {
	x := fresh(t)
	want(t, "new", x, api.Enclave{First: people(), Rules: rules(), Margin: 7, Deadline: deadline})
	s, e := environment.Source(x)
	want(t, "source", fmt.Sprint(s, e), fmt.Sprint(people(), api.OK))
	late := people()
	late.Version = 1
	for i, c := range []struct {
		first            api.Source
		rules            api.Rules
		margin, deadline int
	}{{api.Source{}, rules(), 7, 50}, {late, rules(), 7, 50}, {people(), api.Rules{}, 7, 50}, {people(), rules(), 0, 50}, {people(), rules(), 101, 50}, {people(), rules(), 7, 0}, {people(), rules(), 7, api.MaxDeadline + 1}} {
		x, e := environment.New(c.first, c.rules, c.margin, c.deadline)
		want(t, fmt.Sprint(i), fmt.Sprint(x, e), fmt.Sprint(api.Enclave{}, api.ErrState))
	}
	x, e = environment.New(people(), rules(), 100, api.MaxDeadline)
	want(t, "the greatest numbers", fmt.Sprint(x.Margin, x.Deadline, e), fmt.Sprint(100, api.MaxDeadline, api.OK))
}

// full is an environment in which there is something everywhere.
func full(t *testing.T) api.Enclave {
	t.Helper()
	x := play(t, started(t), areas+"approve o dan 3 9\ndeclare 5 6\n"+declared("o", "age from 20 to 30", "1 of 2"))
	x = play(t, x, signed(t, x, 1)+"release 1\ntime 6\nremove 14\n")
	x.Projects = slices.Clone(x.Projects)
	return x
}

// TestCheck is about P42.1: what is not valid.
func TestCheck(t *testing.T) {
	type en = api.Enclave
	want(t, "full", environment.Check(full(t)), api.OK)
	project := func(change func(p *api.Project)) func(x *en) {
		return func(x *en) { change(&x.Projects[1]) }
	}
	for i, change := range []func(x *en){
		func(x *en) { x.Time = -1 }, func(x *en) { x.Time = api.MaxTime + 1 }, func(x *en) { x.First.Version = 1 }, func(x *en) { x.First.Rows = nil }, func(x *en) { x.First.Gone = []int{1} }, func(x *en) { x.Edits = append(x.Edits, api.Edit{Kind: api.EditRemove, Id: 14}) }, func(x *en) { x.Edits = append(x.Edits, api.Edit{}) },
		func(x *en) { x.Approvals = append(x.Approvals, x.Approvals[0]) }, func(x *en) { x.Rules.Least = 0 }, func(x *en) { x.Margin = 0 }, func(x *en) { x.Margin = 101 }, func(x *en) { x.Deadline = 0 }, func(x *en) { x.Rota = nil }, func(x *en) { x.Rota = append(x.Rota, x.Rota[0]) },
		func(x *en) { x.Outputs[0].Number = 2 }, func(x *en) { x.Outputs[0].State = 3; x.Outputs[0].Signatures = nil }, func(x *en) { x.Outputs = nil }, func(x *en) { x.Concerns = nil }, func(x *en) { x.Concerns = append(x.Concerns, api.Concern{Output: 2}) }, func(x *en) { x.Concerns[0].Output = 2 }, func(x *en) { x.Concerns[0].Keys = []int{2, 1} }, func(x *en) { x.Concerns[0].Keys = []int{-1} }, func(x *en) { x.Concerns[0].Keys = []int{api.MaxId + 1} },
		func(x *en) { x.Projects[0], x.Projects[1] = x.Projects[1], x.Projects[0] }, func(x *en) { x.Projects[0] = x.Projects[1] }, project(func(p *api.Project) { p.Secret = -1 }), project(func(p *api.Project) { p.Secret = 1 << 60 }), project(func(p *api.Project) { p.Declaration.Questions = nil }), project(func(p *api.Project) { p.Declaration.Project = "q" }), project(func(p *api.Project) { p.Session.Project = "q" }), project(func(p *api.Project) { p.Session.Project, p.Session.Extract.Project = "q", "q" }), project(func(p *api.Project) { p.Session.Asked = []string{"z"} }), project(func(p *api.Project) { p.Session.Log = -1 }), project(func(p *api.Project) { p.Session.Extract.Rows = [][]int{{1}} }),
		func(x *en) { x.Wholes[0].Version = -1 }, func(x *en) { x.Wholes[0].Version = 2 }, func(x *en) { x.Wholes[0].Release.Number = 1 }, func(x *en) { x.Wholes[0].Release.Values = nil }, func(x *en) { x.Wholes[0].Release.View.Groups = nil }, func(x *en) { x.Wholes = append(x.Wholes, x.Wholes[0]) }, func(x *en) {
			x.Wholes[0].Version = 1
			w := x.Wholes[0]
			w.Version = 0
			w.Release.Number = 1
			x.Wholes = append(x.Wholes, w)
		},
		func(x *en) { x.Register[0].Text += "x" }, func(x *en) { x.Register = append(x.Register, x.Register[0]) },
	} {
		x := full(t)
		change(&x)
		want(t, fmt.Sprint("change ", i), environment.Check(x), api.ErrState)
		s, e := environment.Source(x)
		want(t, "source", fmt.Sprint(s, e), fmt.Sprint(api.Source{}, api.ErrState))
		space, l, e := environment.Protected(x)
		want(t, "protected", fmt.Sprint(space, l, e), fmt.Sprint(api.Space{}, []int{}, api.ErrState))
		r, is, e := environment.Whole(x, "", "")
		want(t, "whole", fmt.Sprint(r, is, e), fmt.Sprint(api.Release{}, false, api.ErrState))
		y, e := environment.Step(x, api.Event{})
		want(t, "step", e, api.ErrState)
		want(t, "step", y, x)
	}
	for i, change := range []func(x *en){
		func(x *en) { x.Time = 0 }, func(x *en) { x.Time = api.MaxTime }, project(func(p *api.Project) { p.Secret = 0 }), project(func(p *api.Project) { p.Secret = 1<<60 - 1 }), func(x *en) { x.Wholes[0].Version = 1 }, func(x *en) { x.Wholes = nil }, func(x *en) { x.Register = nil }, func(x *en) { x.Concerns[0].Keys = nil }, func(x *en) { x.Projects = nil },
	} {
		x := full(t)
		change(&x)
		want(t, fmt.Sprint("right ", i), environment.Check(x), api.OK)
	}
	many := full(t)
	many.Projects, many.Outputs, many.Concerns, many.Wholes, many.Register = nil, nil, nil, nil, nil
	for i := range 13 {
		p := full(t).Projects[1]
		name := string(rune('a' + i))
		p.Declaration.Project, p.Session.Project, p.Session.Extract.Project = name, name, name
		many.Projects = append(many.Projects, p)
		want(t, fmt.Sprint(i, " projects"), environment.Check(many) == api.OK, i < 12)
	}
}

// TestWithoutSpace is about P42.1: a schema without code columns has no space.
func TestWithoutSpace(t *testing.T) {
	s := api.Source{Schema: api.Schema{Columns: []api.Column{{Name: "p", Kind: api.ColumnId}}}}
	x, e := environment.New(s, rules(), 1, 1)
	want(t, "it is valid", e, api.OK)
	space, l, e := environment.Protected(x)
	want(t, "protected", fmt.Sprint(space, l, e), fmt.Sprint(api.Space{}, []int{}, api.ErrSpace))
	x.Wholes = []api.Whole{{}}
	want(t, "but no whole tables", environment.Check(x), api.ErrState)
}

// TestProtected is about P42.1.
func TestProtected(t *testing.T) {
	x := fresh(t)
	for i, c := range []struct {
		text  string
		least int
		cells []int
	}{
		{"", 3, []int{0}}, {"", 7, []int{0, 1, 2}}, {"", 6, []int{0}}, {"", 1, nil}, {"remove 1\n", 3, []int{0}}, {"withdraw 2\n", 3, nil}, {"remove 14\nremove 13\nremove 12\nremove 11\n", 3, []int{2}}, {"replace 3 1 1 5 5\n", 3, []int{0, 2}}, {"add 99 2 2 5 5\n", 6, []int{0, 1, 2, 3}},
	} {
		x = play(t, x, c.text)
		y := x
		y.Rules.Least = c.least
		space, l, e := environment.Protected(y)
		want(t, fmt.Sprint(i), fmt.Sprint(space, l, e), fmt.Sprint(api.Space{Sizes: []int{2, 2}}, c.cells, api.OK))
		s, e := environment.Source(y)
		should, _ := source.At(people(), y.Edits, len(y.Edits))
		want(t, "source", fmt.Sprint(s, e), fmt.Sprint(should, api.OK))
		counts := make([]int, 4)
		for _, row := range s.Rows {
			cell, _ := cells.Index(space, []int{row[1] - 1, row[2] - 1})
			counts[cell]++
		}
		for cell, n := range counts {
			want(t, "by counting", slices.Contains(l, cell), 0 < n && n < c.least)
		}
	}
}

// TestWhole is about P42.2.
func TestWhole(t *testing.T) {
	x := started(t)
	statements := []string{"let n = count(all)", "out none = (n + 1)", "out byarea = table(area/1; -; all)", "out sums = table(sex/1; age; all)", "out incomes = table(sex/1; income; all)", "out some = table(sex/1; -; age from 0 to 99)", "let inside = table(sex/1; -; all)", "out named = inside", "out total = table(area/0; -; all)", "out fine = table(sex/1, area/1; -; all)"}
	for i := range statements {
		x = play(t, x, fmt.Sprintf("let p %d\n%s\n", i+1, strings.Join(statements[:i+1], "\n")))
	}
	view := func(area, sex []int) api.View { return api.View{Groups: [][]int{area, sex}} }
	both, one := []int{0, 1}, []int{0, 0}
	for name, r := range map[string]api.Release{
		"byarea": {View: view(both, one), Values: []int{8, 6}}, "sums": {View: view(one, both), Values: []int{8, 6}}, "total": {View: view(one, one), Values: []int{14}}, "fine": {View: view(both, both), Values: []int{2, 6, 6, 0}},
	} {
		got, is, e := environment.Whole(x, "p", name)
		want(t, name, fmt.Sprint(got, is, e), fmt.Sprint(r, true, api.OK))
	}
	for _, name := range []string{"none", "incomes", "some", "named"} {
		got, is, e := environment.Whole(x, "p", name)
		want(t, name, fmt.Sprint(got, is, e), fmt.Sprint(api.Release{}, false, api.OK))
	}
	for _, c := range []struct {
		project, name string
		e             api.Errno
	}{{"q", "byarea", api.ErrNumber}, {"", "", api.ErrNumber}, {"p", "n", api.ErrName}, {"p", "inside", api.ErrName}, {"p", "z", api.ErrName}, {"p", "", api.ErrName}} {
		got, is, e := environment.Whole(x, c.project, c.name)
		want(t, c.name, fmt.Sprint(got, is, e), fmt.Sprint(api.Release{}, false, c.e))
	}
	for i, d := range []string{declared("q", "age from 0 to 99", "1 of 1"), declared("q", "all", "1 of 2"), declared("q", "all", "3 of 3")} {
		y := play(t, x, "approve q cyd 0 90\ndeclare 1 6\n"+d+"let q 1\nout a = table(area/1; -; all)\n")
		got, is, e := environment.Whole(y, "q", "a")
		want(t, d, fmt.Sprint(is, e, len(got.Values)), fmt.Sprint(i == 2, api.OK, []int{0, 0, 2}[i]))
	}
	failing := play(t, started(t), "let p 1\nout a = table(area/1; -; all)\nlet p 2\nout a = table(area/1; -; all)\nout z = (1 / 0)\n")
	_, is, e := environment.Whole(failing, "p", "a")
	want(t, "a program that fails", fmt.Sprint(is, e), fmt.Sprint(false, api.ErrEmpty))
	_, is, e = environment.Whole(failing, "p", "z")
	want(t, "what asks for none does not mind", fmt.Sprint(is, e), "false 0")
	for i := range 24 {
		r, is, e := environment.Whole(x, "p", "total")
		want(t, fmt.Sprint("number ", i), fmt.Sprint(r.Number, is, e), fmt.Sprint(i, true, api.OK))
		x.Wholes = append(x.Wholes, api.Whole{Release: r})
	}
	_, is, e = environment.Whole(x, "p", "total")
	want(t, "too many", fmt.Sprint(is, e), fmt.Sprint(false, api.ErrRange))
}

// TestTime is about P42.3.
func TestTime(t *testing.T) {
	x := play(t, started(t), areas)
	x = play(t, x, "time 4\ntime 5\ntime 54\ntime 1073741825\n", api.ErrTime, api.OK, api.OK, api.ErrTime)
	want(t, "it waits", x.Outputs[0].State, api.OutputPending)
	x = play(t, x, "time 55\n")
	want(t, "it is due", fmt.Sprint(x.Outputs[0].State, x.Time), fmt.Sprint(api.OutputExpired, 55))
	x = play(t, x, "time 1073741824\n")
	_, e := environment.Step(x, api.Event{Kind: api.EventTime, Number: math.MaxInt})
	want(t, "the end of time", e, api.ErrTime)
	for _, kind := range []int{0, 15, -1} {
		y, e := environment.Step(x, api.Event{Kind: kind})
		want(t, "no kind", e, api.ErrKind)
		want(t, "no kind", y, x)
	}
}

// TestEdit is about P42.3.
func TestEdit(t *testing.T) {
	x := play(t, fresh(t), "remove 1\nremove 1\nadd 1 1 1 5 5\nwithdraw 1\nadd 1 1 1 5 5\nadd 2 1 1 5 5\nadd 16 1 1 100 5\n", api.OK, api.ErrPerson, api.OK, api.OK, api.ErrGone, api.ErrDuplicate, api.ErrRow)
	want(t, "edits", x.Edits, []api.Edit{{Kind: api.EditRemove, Id: 1}, {Kind: api.EditAdd, Row: []int{1, 1, 1, 5, 5}}, {Kind: api.EditWithdraw, Id: 1}})
	_, e := environment.Step(x, api.Event{Kind: api.EventEdit, Edit: api.Edit{Kind: 9}})
	want(t, "no kind", e, api.ErrKind)
	_, e = environment.Step(x, api.Event{Kind: api.EventEdit, Edit: api.Edit{Kind: api.EditRemove, Id: 3, Row: []int{5}}, Number: 7, Text: "x"})
	want(t, "other fields do not matter", e, api.OK)
}

// TestApprovalsAndShifts is about P42.3.
func TestApprovalsAndShifts(t *testing.T) {
	x := play(t, fresh(t), "approve p cyd 0 10\napprove p cyd 5 20\napprove p dan 10 20\nend q\ntime 4\nend p\nend p\ntime 10\nend p\n", api.OK, api.ErrDuplicate, api.OK, api.ErrApproval, api.OK, api.OK, api.ErrApproval, api.OK, api.OK)
	want(t, "approvals", x.Approvals, []api.Approval{{Project: "p", Researcher: "cyd", From: 0, Until: 4}})
	x = play(t, x, "shift ann 5 9\nshift bob 0 9\nshift ann 8 10\nshift ann 9 9\n", api.OK, api.OK, api.ErrTwice, api.ErrTime)
	want(t, "rota", x.Rota, []api.Shift{{Person: "bob", From: 0, Until: 9}, {Person: "ann", From: 5, Until: 9}})
}

// TestDeclare is about P42.3.
func TestDeclare(t *testing.T) {
	text := func(secret, project, cohort string) string {
		return "declare " + secret + " 6\n" + declared(project, cohort, "1 of 1")
	}
	x := play(t, fresh(t), "remove 1\napprove p cyd 0 10\napprove a cyd 5 20\napprove z cyd 0 20\n"+text("5", "z", "all")+text("7", "p", "age from 23 to 30")+text("-7", "p", "all")+text("5", "a", "all")+"time 5\n"+text("-1", "a", "all")+text("9", "a", "all"),
		api.OK, api.OK, api.OK, api.OK, api.OK, api.OK, api.ErrDuplicate, api.ErrApproval, api.OK, api.ErrRange, api.OK)
	names := []string{}
	s, _ := environment.Source(x)
	for _, p := range x.Projects {
		names = append(names, fmt.Sprint(p.Declaration.Project, p.Secret))
		plan, _ := minimise.Plan(schema(), p.Declaration)
		built, _ := extract.Build(s, p.Declaration, plan, p.Secret)
		session, _ := room.New(schema(), built)
		want(t, "session", p.Session, session)
	}
	want(t, "in order", names, []string{"a9", "p7", "z5"})
	want(t, "declaration", x.Projects[1].Declaration.Cohort.Low, 23)
	d, _, _ := declaration.Parse(schema(), declared("p", "all", "1 of 1"))
	d.Questions[0].Name = "to"
	d.Project = "b"
	x = play(t, x, "approve b cyd 0 900\n")
	_, e := environment.Step(x, api.Event{Kind: api.EventDeclare, Declaration: d})
	want(t, "a wrong declaration", e, api.ErrName)
	for i := range 10 {
		name := string(rune('c' + i))
		should := []api.Errno{api.OK, api.OK}
		if i == 9 {
			should[1] = api.ErrFull
		}
		x = play(t, x, "approve "+name+" cyd 0 900\n"+text("1", name, "all"), should...)
	}
}

// TestCommand is about P42.3.
func TestCommand(t *testing.T) {
	x := play(t, started(t), "undo q\nundo p\nask p n\nlet p 1\nout n = count(all)\nlet p 1\nout n = 1\nask p n\nundo p\nlet p 2\nout n = count(all)\nout m = 1\nundo p\n", api.ErrNumber, api.ErrNone, api.ErrName, api.OK, api.ErrDuplicate, api.OK, api.ErrState, api.OK, api.OK)
	session := x.Projects[0].Session
	want(t, "session", fmt.Sprint(len(session.Program), session.Asked, session.Log), "1 [n] 4")
	change := api.Event{Kind: api.EventCommand, Project: "p", Command: api.Command{Kind: api.CommandChange}}
	_, e := environment.Step(x, change)
	want(t, "a change comes otherwise", e, api.ErrKind)
	change.Command.Kind = 9
	_, e = environment.Step(x, change)
	want(t, "no kind", e, api.ErrKind)
	x = play(t, x, "close p\nundo p\nend p\nundo p\n", api.OK, api.ErrState, api.OK, api.ErrApproval)
	change.Command.Kind = api.CommandChange
	_, e = environment.Step(x, change)
	want(t, "not approved before that it is a change", e, api.ErrApproval)
}

// TestRefresh is about P42.3.
func TestRefresh(t *testing.T) {
	x := play(t, started(t), "let p 1\nout males = count(sex under m)\nlet p 2\nout males = count(sex under m)\nout b = count(area under b)\nask p males\nask p b\nsubmit p males\nsubmit p b\n")
	x = play(t, x, signed(t, x, 1)[:strings.Index(signed(t, x, 1), "sign 1 bob")]) // by ann alone
	before := x.Projects[0].Session
	x = play(t, x, "refresh q\nremove 14\nremove 1\nwithdraw 3\n", api.ErrNumber)
	same := play(t, x, "approve q dan 0 90\n")
	y := play(t, same, "refresh p\n")
	p := y.Projects[0]
	s, _ := environment.Source(y)
	built, _ := extract.Build(s, p.Declaration, before.Extract.Picks, p.Secret)
	want(t, "extract", p.Session.Extract, built)
	want(t, "log", fmt.Sprint(p.Session.Log, len(p.Session.Program), p.Session.Asked), fmt.Sprint(before.Log+1, 2, []string{"males", "b"}))
	want(t, "both are stale", fmt.Sprint(y.Outputs[0].State, y.Outputs[1].State, len(y.Outputs[0].Signatures)), fmt.Sprint(api.OutputRefused, api.OutputRefused, 1))
	z := play(t, started(t), "let p 1\nout males = count(sex under m)\nlet p 2\nout males = count(sex under m)\nout b = count(area under b)\nask p males\nask p b\nsubmit p males\nsubmit p b\nreplace 3 1 2 99 100\nrefresh p\n")
	want(t, "one is stale", fmt.Sprint(z.Outputs[0].State, z.Outputs[1].State), fmt.Sprint(api.OutputRefused, api.OutputPending))
	change, _ := refresh.Diff(x.Projects[0].Session.Extract, z.Projects[0].Session.Extract)
	want(t, "by its keys", fmt.Sprint(refresh.Stale(change, z.Concerns[0].Keys), refresh.Stale(change, z.Concerns[1].Keys)), "true false")
	done := play(t, z, "refresh p\nadd 50 1 1 5 5\nrefresh p\n")
	want(t, "what is added is on no keys", done.Outputs[1].State, api.OutputPending)
	x = play(t, x, "end p\nrefresh p\n", api.OK, api.ErrApproval)
	closed := play(t, started(t), "close p\nrefresh p\n", api.OK, api.ErrState)
	want(t, "closed", closed.Projects[0].Session.Closed, true)
	other := play(t, z, "approve q dan 0 90\ndeclare 77 6\n"+declared("q", "all", "1 of 1")+"remove 12\nrefresh q\n")
	want(t, "outputs of other projects stay", other.Outputs[1].State, api.OutputPending)
	gone := play(t, other, "time 60\nremove 13\nrefresh p\n")
	want(t, "what is not open stays", fmt.Sprint(gone.Outputs[0].State, gone.Outputs[1].State), fmt.Sprint(api.OutputRefused, api.OutputExpired))
}

// TestSubmit is about P42.3.
func TestSubmit(t *testing.T) {
	x := play(t, started(t), "submit q n\nsubmit p n\nlet p 1\nout n = count(all)\nsubmit p n\nask p n\nsubmit p n\n", api.ErrNumber, api.ErrNone, api.OK, api.ErrNone, api.OK, api.OK)
	p := x.Projects[0]
	text, value, _ := recompute.Make(schema(), p.Session.Extract, p.Session.Program, "n")
	want(t, "output", x.Outputs, []api.Output{{Number: 1, Project: "p", Researcher: "cyd", Time: 5, Text: text, State: api.OutputPending}})
	want(t, "concern", x.Concerns, []api.Concern{{Output: 1, Keys: value.Lineage}})
	x = play(t, x, "submit p n\n")
	want(t, "again", fmt.Sprint(len(x.Outputs), x.Outputs[1].Number, x.Concerns[1].Output), "2 2 2")
	few := play(t, x, "let p 2\nout n = count(all)\nout few = count((area under a and sex under f))\nask p few\nsubmit p few\n", api.OK, api.OK, api.ErrRule)
	few = play(t, few, "remove 3\nremove 4\nremove 5\nremove 6\nremove 7\nremove 8\nremove 9\nremove 10\nremove 11\nremove 12\nremove 13\nremove 14\nwithdraw 1\nwithdraw 2\nrefresh p\n")
	few = play(t, few, "submit p few\nlet p 3\nout n = count(all)\nout few = count((area under a and sex under f))\nout mean = mean(age; all)\nsubmit p n\n", api.OK, api.OK, api.ErrEmpty)
	ended := play(t, x, "end p\nsubmit p n\n", api.OK, api.ErrApproval)
	want(t, "ended", len(ended.Outputs), 2)
	long := "out long = hist(age; 1; all)"
	lax := x
	lax.Rules.Least = 1
	lax = play(t, lax, "let p 2\nout n = count(all)\n"+long+"\nask p long\nsubmit p long\n")
	want(t, "a text", strings.HasPrefix(lax.Outputs[2].Text, "output long hist\n"), true)
	for range 37 {
		lax = play(t, lax, "submit p n\n")
	}
	play(t, lax, "submit p n\n", api.ErrForm)
	x.Rules.Least = 1
	text = ""
	for i := range 110 {
		text += fmt.Sprintf("add %d 1 1 5 %d\n", 100+i, 110+i)
	}
	x = play(t, x, text)
	play(t, x, "refresh p\nlet p 2\nout n = count(all)\nout long = hist(income; 1; all)\nask p long\nsubmit p long\n", api.OK, api.OK, api.OK, api.ErrForm)
}

// TestWholesAtSubmit is about P42.3: whole tables that expose a protected cell, of the version of the source.
func TestWholesAtSubmit(t *testing.T) {
	two := "let p 2\nout areas = table(area/1; -; all)\nout sexes = table(sex/1; age; all)\nask p sexes\n"
	x := play(t, started(t), areas+two)
	x = play(t, x, "submit p sexes\n"+signed(t, x, 1)) // nothing is released so far: both are safe alone
	x = play(t, x, signed(t, x, 2)+"release 1\n")
	want(t, "the whole table", x.Wholes, []api.Whole{{Version: 0, Release: api.Release{Number: 0, View: api.View{Groups: [][]int{{0, 1}, {0, 0}}}, Values: []int{8, 6}}}})
	x = play(t, x, "release 2\nsubmit p sexes\nsubmit p areas\n", api.ErrExposed, api.ErrExposed, api.OK)
	closer := x
	closer.Margin = 6
	closer = play(t, closer, "release 2\nsubmit p sexes\n")
	want(t, "with a smaller margin", fmt.Sprint(len(closer.Wholes), closer.Wholes[1].Release.Number), "2 1")
	later := play(t, x, "add 90 1 2 5 5\nsubmit p areas\nsubmit p sexes\nrelease 2\n", api.OK, api.ErrVersion, api.ErrVersion, api.ErrVersion)
	later = play(t, later, "refresh p\n")
	want(t, "refreshed", later.Projects[0].Session.Extract.Version, 1)
	later = play(t, later, "submit p sexes\n")
	later = play(t, later, signed(t, later, 4)+"release 4\n")
	want(t, "a version of its own", fmt.Sprint(later.Wholes[1].Version, later.Wholes[1].Release), fmt.Sprint(1, api.Release{Number: 1, View: api.View{Groups: [][]int{{0, 0}, {0, 1}}}, Values: []int{8, 7}}))
	play(t, later, "submit p areas\n", api.ErrExposed)
	large := started(t)
	large.Margin = 1
	text := ""
	for i := range 60 {
		text += fmt.Sprintf("add %d %d %d 5 5\n", 100+i, 1+i%2, 1+i/2%2)
	}
	play(t, play(t, large, text+"refresh p\n"), areas, api.OK, api.OK, api.ErrLimit)
	part := play(t, started(t), "let p 1\nout b = table(sex/1; -; area under b)\nask p b\nsubmit p b\n")
	part = play(t, part, signed(t, part, 1)+"release 1\n")
	want(t, "a table of some rows is no whole one", len(part.Wholes), 0)
}

// TestSignAndRefuse is about P42.3.
func TestSignAndRefuse(t *testing.T) {
	x := play(t, started(t), areas)
	text := signed(t, x, 1)
	ann := text[:strings.Index(text, "sign 1 bob")]
	x = play(t, x, "sign 1 cyd 1\nx\nsign 1 eve 1\nx\nsign 2 ann 1\nx\nsign 1 ann 1\nx\n"+ann+ann+"release 1\n", api.ErrOwn, api.ErrDuty, api.ErrNumber, api.ErrValue, api.OK, api.ErrTwice, api.ErrState)
	want(t, "signed", x.Outputs[0].Signatures, []api.Signature{{Person: "ann", Time: 5}})
	y := play(t, x, "time 9\nrefuse 1 cyd\nrefuse 2 bob\nrefuse 1 bob\nrefuse 1 bob\n", api.OK, api.ErrOwn, api.ErrNumber, api.OK, api.ErrState)
	want(t, "refused", y.Outputs[0].State, api.OutputRefused)
	z := play(t, x, "time 9\n"+strings.TrimPrefix(text, ann))
	want(t, "cleared", fmt.Sprint(z.Outputs[0].State, z.Outputs[0].Signatures[1]), fmt.Sprint(api.OutputCleared, api.Signature{Person: "bob", Time: 9}))
}

// TestRelease is about P42.3.
func TestRelease(t *testing.T) {
	x := play(t, started(t), "let p 1\nout n = count(all)\nask p n\nsubmit p n\nrelease 0\nrelease 2\nrelease 1\n", api.OK, api.OK, api.OK, api.ErrNumber, api.ErrNumber, api.ErrState)
	x = play(t, x, signed(t, x, 1))
	y := play(t, x, "release 1\nrelease 1\n", api.OK, api.ErrState)
	want(t, "released", y.Outputs[0].State, api.OutputReleased)
	r := y.Register[0]
	want(t, "register", fmt.Sprint(len(y.Register), r.Number, r.Kind, r.Of, r.Output, r.Text), fmt.Sprint(1, 1, api.EntryRelease, 0, 1, x.Outputs[0].Text))
	want(t, "no whole table", len(y.Wholes), 0)
	changed := play(t, x, "remove 9\nrefresh p\nrelease 1\n", api.OK, api.OK, api.ErrValue)
	want(t, "what is cleared stays so", changed.Outputs[0].State, api.OutputCleared)
	other := x
	other.Projects = nil
	play(t, other, "release 1\n", api.ErrValue)
	play(t, x, "end p\nrelease 1\n")
	failing := play(t, x, "let p 2\nout n = count(all)\nlet z = (1 / 0)\nrelease 1\n", api.OK, api.ErrValue)
	want(t, "failing", len(failing.Register), 0)
	odd := x
	odd.Outputs = slices.Clone(x.Outputs)
	odd.Outputs[0].Text = "no document"
	play(t, odd, "release 1\n", api.ErrValue)
}

// TestRegister is about P42.3: releases, withdrawals and what supersedes them.
func TestRegister(t *testing.T) {
	x := play(t, started(t), "let p 1\nout n = count(all)\nask p n\nsubmit p n\nsubmit p n\nsubmit p n\n")
	x = play(t, x, signed(t, x, 1)+signed(t, x, 2)+signed(t, x, 3)+"supersede 1 1\nrelease 1\nsupersede 5 2\nsupersede 1 4\nsupersede 1 2\ndrop 1\nsupersede 1 3\ndrop 2\nrelease 3\ndrop 7\n",
		0, 0, 0, 0, 0, 0, api.ErrWithdrawn, api.OK, api.ErrWithdrawn, api.ErrNumber, api.OK, api.ErrWithdrawn, api.ErrWithdrawn, api.OK, api.OK, api.ErrWithdrawn)
	var l []string
	for _, r := range x.Register {
		l = append(l, fmt.Sprint(r.Kind, r.Of, r.Output, r.Text != ""))
	}
	want(t, "register", l, []string{"1 0 1 true", "3 1 2 true", "2 2 0 false", "1 0 3 true"})
	want(t, "states", fmt.Sprint(x.Outputs[0].State, x.Outputs[1].State, x.Outputs[2].State), "6 6 6")
}

// TestNobody is about what follows: an environment in which nobody is on duty releases nothing.
func TestNobody(t *testing.T) {
	x := play(t, fresh(t), "approve p cyd 0 900\ndeclare 77 6\n"+declared("p", "all", "1 of 1")+areas)
	play(t, x, signed(t, x, 1)+"release 1\n", api.ErrDuty, api.ErrDuty, api.ErrState)
}

// TestArgumentsStay is about the rule R2.
func TestArgumentsStay(t *testing.T) {
	x := play(t, started(t), areas)
	x.Outputs, x.Projects, x.Edits, x.Concerns = slices.Grow(x.Outputs, 3), slices.Grow(x.Projects, 3), slices.Grow(x.Edits, 3), slices.Grow(x.Concerns, 3)
	before := fmt.Sprintf("%+v", x)
	for _, text := range []string{"time 90\n", "remove 1\n", "let p 2\nout areas = table(area/1; -; all)\nlet n = 1\n", "refuse 1 ann\n", "refresh p\n", "submit p areas\n", "approve a b 0 5\n", "shift dan 0 5\n", "end p\n", "close p\n"} {
		play(t, x, text)
		want(t, text, fmt.Sprintf("%+v", x), before)
	}
	want(t, "spare capacity", fmt.Sprint(x.Edits[:1], x.Concerns[:2][1], x.Outputs[:2][1]), fmt.Sprint([]api.Edit{{}}, api.Concern{}, api.Output{}))
	l, _, _ := program.Parse(schema(), "out areas = table(area/1; -; all)\n")
	want(t, "program", len(l), len(x.Projects[0].Session.Program))
}
