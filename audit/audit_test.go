package audit_test

import (
	"fmt"
	"slices"
	"strings"
	"testing"

	"dataenclave/api"
	"dataenclave/audit"
	"dataenclave/environment"
	"dataenclave/example"
	"dataenclave/play"
	"dataenclave/program"
	"dataenclave/register"
	"dataenclave/script"
)

func want(t *testing.T, name string, got, want any) {
	t.Helper()
	if fmt.Sprintf("%+v", got) != fmt.Sprintf("%+v", want) {
		t.Errorf("%s: got %+v, want %+v", name, got, want)
	}
}

// run carries out a script, all of whose events must have no error.
func run(t *testing.T, x api.Enclave, text string) api.Enclave {
	t.Helper()
	y, errors, line, e := play.Text(x, text)
	if e != api.OK || slices.ContainsFunc(errors, func(e api.Errno) bool { return e != api.OK }) {
		t.Fatal(text, errors, line, e)
	}
	return y
}

// signed is the text of the signatures of ann and bob for an output.
func signed(x api.Enclave, number int) string {
	text := x.Outputs[number-1].Text
	lines := strings.Count(text, "\n")
	return fmt.Sprintf("sign %d ann %d\n%ssign %d bob %d\n%s", number, lines, text, number, lines, text)
}

const two = "let p 1\nout areas = table(area/1; -; all)\nlet p 2\nout areas = table(area/1; -; all)\nout n = count(sex under m)\nask p areas\nask p n\n"

// released has a released table and a released number of version 0, an edit, and an output that waits.
func released(t *testing.T) api.Enclave {
	t.Helper()
	x, e := environment.New(example.People(), api.Rules{Least: 3, Percent: 90}, 7, 50)
	want(t, "new", e, api.OK)
	x = run(t, x, example.Start()+two+"submit p areas\nsubmit p n\n")
	x = run(t, x, signed(x, 1)+signed(x, 2)+"release 1\nrelease 2\ntime 9\nremove 8\nreplace 9 2 1 30 7\nrefresh p\nsubmit p n\n")
	return x
}

func defect(kind, number int) api.Defect { return api.Defect{Kind: kind, Number: number} }

// added is the register with one more release, whatever the outputs are.
func added(t *testing.T, l []api.Entry, output int, text string) []api.Entry {
	t.Helper()
	l, e := register.Add(l, api.EntryRelease, 0, output, text)
	want(t, "add", e, api.OK)
	return l
}

// TestDefects is about P45.1.
func TestDefects(t *testing.T) {
	type en = api.Enclave
	x := released(t)
	text := func(n int) string { return x.Outputs[n-1].Text }
	sexes := api.Release{Number: 1, View: api.View{Groups: [][]int{{0, 0}, {0, 1}}}, Values: []int{8, 6}}
	for i, c := range []struct {
		change  func(x *en)
		defects []api.Defect
	}{
		{func(x *en) {}, nil},
		{func(x *en) { x.Margin = 0; x.Register = nil }, []api.Defect{defect(api.DefectState, 0)}},
		{func(x *en) { x.Outputs[0].Signatures = nil }, []api.Defect{defect(api.DefectState, 0)}},
		{func(x *en) { x.Register = nil }, []api.Defect{defect(api.DefectRegister, 1), defect(api.DefectRegister, 2)}},
		{func(x *en) { x.Register = x.Register[:1] }, []api.Defect{defect(api.DefectRegister, 2)}},
		{func(x *en) { x.Register = added(t, added(t, nil, 2, text(2)), 1, "x") }, []api.Defect{defect(api.DefectRegister, 1)}},
		{func(x *en) { x.Register = added(t, x.Register, 3, text(3)) }, []api.Defect{defect(api.DefectRegister, 3)}},
		{func(x *en) { x.Register = added(t, added(t, x.Register, 40, "x"), 4, "x") }, []api.Defect{defect(api.DefectRegister, 40), defect(api.DefectRegister, 4)}},
		{func(x *en) { x.Register = added(t, added(t, nil, 9, "x"), 1, "x") }, []api.Defect{defect(api.DefectRegister, 1), defect(api.DefectRegister, 2), defect(api.DefectRegister, 9)}},
		{func(x *en) { x.Outputs[1].State = api.OutputCleared }, []api.Defect{defect(api.DefectRegister, 2)}},
		{func(x *en) { x.Outputs[0].State = api.OutputCleared }, []api.Defect{defect(api.DefectRegister, 1)}},
		{func(x *en) { x.Register, _ = register.Add(x.Register, api.EntryWithdraw, 1, 0, "") }, nil},
		{func(x *en) { x.Wholes = append(x.Wholes, api.Whole{Release: sexes}) }, []api.Defect{defect(api.DefectExposed, 0)}},
		{func(x *en) { x.Wholes = append(x.Wholes, api.Whole{Version: 1, Release: sexes}) }, nil},
		{func(x *en) { x.Margin = 8; x.Wholes[0].Version = 1 }, nil},
		{func(x *en) { x.Margin = 9; x.Register = x.Register[:1] }, []api.Defect{defect(api.DefectRegister, 2), defect(api.DefectExposed, 0)}},
		{func(x *en) {
			x.Margin = 9
			again := x.Wholes[0]
			again.Version, again.Release.Number = 1, 1
			x.Wholes = append(x.Wholes, again)
		}, []api.Defect{defect(api.DefectExposed, 0)}},
		{func(x *en) { x.Rules.Least = 7; x.Margin = 8 }, []api.Defect{defect(api.DefectExposed, 2)}},
		{func(x *en) { x.Rules.Least = 1; x.Margin = 100 }, nil},
	} {
		x := released(t)
		x.Outputs, x.Wholes = slices.Clone(x.Outputs), slices.Clone(x.Wholes)
		c.change(&x)
		l, e := audit.Defects(x)
		want(t, fmt.Sprint("change ", i), fmt.Sprint(l, e), fmt.Sprint(c.defects, api.OK))
	}
}

// TestVersions is about P45.1: who is protected is a matter of the version.
func TestVersions(t *testing.T) {
	x := released(t)
	x.Margin = 9
	l, _ := audit.Defects(x)
	want(t, "the version 0", l, []api.Defect{defect(api.DefectExposed, 0)})
	x, e := environment.New(example.People(), api.Rules{Least: 3, Percent: 90}, 9, 50)
	want(t, "new", e, api.OK)
	x = run(t, x, "withdraw 1\nremove 2\n")
	table := api.Release{View: api.View{Groups: [][]int{{0, 1}, {0, 0}}}, Values: []int{8, 6}}
	for version, should := range [][]api.Defect{{defect(api.DefectExposed, 0)}, {defect(api.DefectExposed, 0)}, nil} {
		x.Wholes = []api.Whole{{Version: version, Release: table}}
		l, e := audit.Defects(x)
		want(t, fmt.Sprint("the version ", version), fmt.Sprint(l, e), fmt.Sprint(should, api.OK))
	}
}

// TestDefectsErrors is about P45.1.
func TestDefectsErrors(t *testing.T) {
	x := released(t)
	conflict := x.Wholes[0]
	conflict.Release.Number, conflict.Release.Values = 1, []int{7, 6}
	x.Wholes = append(slices.Clone(x.Wholes), conflict)
	l, e := audit.Defects(x)
	want(t, "a conflict", fmt.Sprint(l, e), fmt.Sprint([]api.Defect{}, api.ErrConflict))
	x = released(t)
	x.Wholes = slices.Clone(x.Wholes)
	x.Wholes[0].Release.Values = []int{1000, 1000}
	l, e = audit.Defects(x)
	want(t, "too large", fmt.Sprint(l, e), fmt.Sprint([]api.Defect{}, api.ErrLimit))
	x.Deadline = 0
	l, e = audit.Defects(x)
	want(t, "not valid", fmt.Sprint(l, e), fmt.Sprint([]api.Defect{defect(api.DefectState, 0)}, api.OK))
}

// TestExplained is about P45.2.
func TestExplained(t *testing.T) {
	x := released(t)
	parse := func(text string) []api.Statement {
		l, line, e := program.Parse(example.SmallSchema(), text)
		if e != api.OK {
			t.Fatal(text, line, e)
		}
		return l
	}
	whole := x.Projects[0].Session.Program
	for i, c := range []struct {
		output, version int
		program         []api.Statement
		is              bool
		e               api.Errno
	}{
		{1, 0, whole, true, api.OK}, {2, 0, whole, true, api.OK}, {3, 1, whole, true, api.OK}, {3, 2, whole, true, api.OK}, {1, 1, whole, false, api.OK}, {3, 0, whole, false, api.OK}, {2, 0, whole[1:], true, api.OK}, {2, 0, parse("out n = 6\n"), true, api.OK}, {2, 0, parse("out n = 7\n"), false, api.OK},
		{0, 0, whole, false, api.ErrNumber}, {4, 0, whole, false, api.ErrNumber}, {1, -1, whole, false, api.ErrVersion}, {1, 3, whole, false, api.ErrVersion}, {2, 0, whole[:1], false, api.ErrName}, {2, 0, parse("out n = (1 / 0)\n"), false, api.ErrEmpty},
	} {
		is, e := audit.Explained(x, c.output, c.version, c.program)
		want(t, fmt.Sprint(i), fmt.Sprint(is, e), fmt.Sprint(c.is, c.e))
	}
	without := x
	without.Projects = nil
	is, e := audit.Explained(without, 1, 0, whole)
	want(t, "without its project", fmt.Sprint(is, e), fmt.Sprint(false, api.ErrNumber))
	odd := x
	odd.Outputs = slices.Clone(x.Outputs)
	odd.Outputs[0].Text = "x"
	is, e = audit.Explained(odd, 1, -1, whole)
	want(t, "no document", fmt.Sprint(is, e), fmt.Sprint(false, api.ErrForm))
	odd.Margin = 0
	is, e = audit.Explained(odd, 9, -1, whole)
	want(t, "not valid", fmt.Sprint(is, e), fmt.Sprint(false, api.ErrState))
}

// TestFollows is about P45.3: what can come after, and what cannot.
func TestFollows(t *testing.T) {
	type en = api.Enclave
	a := released(t)
	want(t, "itself", audit.Follows(a, a), true)
	b := run(t, a, "time 10\nwithdraw 7\nrefuse 3 ann\nsubmit p n\ndrop 1\nend p\nshift dan 5 6\n")
	want(t, "later", fmt.Sprint(audit.Follows(a, b), audit.Follows(b, a)), "true false")
	first := func(change func(s *api.Source)) func(x *en) {
		return func(x *en) {
			s := example.People()
			change(&s)
			x.First = s
		}
	}
	for i, change := range []func(x *en){
		first(func(s *api.Source) { s.Rows[13][4]++ }), first(func(s *api.Source) { s.Rows = s.Rows[1:] }), first(func(s *api.Source) { s.Gone = []int{99} }),
		first(func(s *api.Source) { s.Schema.Lists[0].Name = "x" }), first(func(s *api.Source) { s.Schema.Lists[0].Codes[0].Name = "x" }), first(func(s *api.Source) { s.Schema.Columns[1].Name = "x" }), first(func(s *api.Source) { s.Schema.Columns[1].List, s.Schema.Columns[2].List = 1, 0 }),
		first(func(s *api.Source) { s.Schema.Columns[3].Low = -1 }), first(func(s *api.Source) { s.Schema.Columns[3].High = 100 }), first(func(s *api.Source) { s.Schema.Columns[3].Widths = []int{1, 5} }), first(func(s *api.Source) { s.Schema.Columns[3].Optional = true }),
		func(x *en) { x.Rules.Free = 1 }, func(x *en) { x.Margin = 8 }, func(x *en) { x.Deadline = 51 }, func(x *en) { x.Time = 8 }, func(x *en) { x.Edits = nil }, func(x *en) { x.Edits = x.Edits[:1] }, func(x *en) { x.Edits[0].Kind = api.EditWithdraw }, func(x *en) { x.Edits[0].Id = 7 }, func(x *en) { x.Edits[1].Row = []int{9, 2, 1, 30, 8} }, func(x *en) { x.Edits[1].Id = 5 },
		func(x *en) { x.Register = x.Register[:1] }, func(x *en) { x.Register = added(t, x.Register[:1], 9, "") }, func(x *en) { x.Wholes = nil }, func(x *en) { x.Wholes[0].Version = 1 }, func(x *en) { x.Wholes[0].Release.Values = []int{8, 5} }, func(x *en) { x.Wholes[0].Release.View.Groups = [][]int{{0, 0}, {0, 1}} },
		func(x *en) { x.Outputs, x.Concerns = x.Outputs[:2], x.Concerns[:2] }, func(x *en) { x.Outputs[2].Project = "q" }, func(x *en) { x.Outputs[2].Researcher = "eve" }, func(x *en) { x.Outputs[2].Time = 8 }, func(x *en) { x.Outputs[2].Text = "x" }, func(x *en) { x.Outputs[0].State = api.OutputCleared }, func(x *en) { x.Outputs[0].Signatures[1].Time = 6 }, func(x *en) { x.Outputs[0].Signatures[0].Person, x.Outputs[0].Signatures[1].Person = "bob", "ann" },
	} {
		x := released(t)
		if i < 11 {
			x.Projects = nil
		}
		x.Outputs, x.Wholes, x.Register, x.Edits = slices.Clone(x.Outputs), slices.Clone(x.Wholes), slices.Clone(x.Register), slices.Clone(x.Edits)
		x.Outputs[0].Signatures = slices.Clone(x.Outputs[0].Signatures)
		x.Wholes[0].Release.View.Groups = slices.Clone(x.Wholes[0].Release.View.Groups)
		change(&x)
		want(t, fmt.Sprint("it is valid ", i), environment.Check(x), api.OK)
		want(t, fmt.Sprint("change ", i), audit.Follows(a, x), false)
	}
	bad := a
	bad.Approvals = append(slices.Clone(a.Approvals), a.Approvals[0])
	want(t, "both have to be valid", audit.Follows(bad, bad) || audit.Follows(a, bad) || audit.Follows(bad, a), false)
	for i, change := range []func(x *en){
		func(x *en) { x.Time = 99; x.Projects, x.Approvals = nil, nil }, func(x *en) { x.Outputs[2].State = api.OutputExpired }, func(x *en) { x.Outputs[2].State = api.OutputRefused }, func(x *en) { x.Edits = append(x.Edits, api.Edit{Kind: api.EditRemove, Id: 1}) }, func(x *en) { x.Edits[0].Row = []int{} }, func(x *en) {
			x.Outputs[2].State = 2
			x.Outputs[2].Signatures = []api.Signature{{Person: "ann", Time: 9}}
		},
	} {
		x := released(t)
		x.Outputs = slices.Clone(x.Outputs)
		change(&x)
		want(t, fmt.Sprint("can be ", i), audit.Follows(a, x), true)
	}
	refused := released(t)
	refused.Outputs = slices.Clone(refused.Outputs)
	refused.Outputs[2].State = api.OutputRefused
	want(t, "what was refused stays so", audit.Follows(refused, a), false)
	refused.Outputs[2].State = api.OutputExpired
	want(t, "what was expired stays so", audit.Follows(refused, a), false)
}

// TestHistories is about what follows: an environment that is reached by events has no defects, and follows each one before it.
func TestHistories(t *testing.T) {
	x, _ := environment.New(example.People(), api.Rules{Least: 3, Percent: 90}, 7, 50)
	l, _, _ := script.Parse(example.SmallSchema(), example.Start()+two+"submit p areas\nsubmit p n\n")
	y := run(t, x, example.Start()+two+"submit p areas\nsubmit p n\n")
	more, _, _ := script.Parse(example.SmallSchema(), signed(y, 2)+signed(y, 1)+"release 2\nrelease 1\nremove 3\nrelease 1\nrefresh p\nsubmit p n\nsubmit p areas\ntime 70\ndrop 1\nsupersede 2 1\nwithdraw 4\n")
	reached := []api.Enclave{x}
	for _, event := range append(l, more...) {
		x, _ = environment.Step(x, event)
		defects, e := audit.Defects(x)
		want(t, "no defects", fmt.Sprint(defects, e), "[] 0")
		for _, before := range reached {
			want(t, "it follows", audit.Follows(before, x), true)
		}
		reached = append(reached, x)
	}
	want(t, "something has happened", fmt.Sprint(len(x.Wholes), len(x.Register), len(x.Outputs)), "1 3 4")
	for n := range 2 {
		is, e := audit.Explained(x, n+1, 0, y.Projects[0].Session.Program)
		want(t, "explained", fmt.Sprint(is, e), "true 0")
	}
}
