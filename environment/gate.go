package environment

import (
	"slices"

	"dataenclave/api"
	"dataenclave/desk"
	"dataenclave/differencing"
	"dataenclave/document"
	"dataenclave/recompute"
	"dataenclave/register"
	"dataenclave/rules"
)

// guard returns why a whole table of an extract may not be released behind those of its version.
func (x state) guard(r api.Release, extract api.Extract) api.Errno {
	if extract.Version != x.source.Version {
		return api.ErrVersion
	}
	space, protected, e := x.protected()
	if e != api.OK {
		return e
	}
	var releases []api.Release
	for _, w := range x.Wholes {
		if w.Version == x.source.Version {
			releases = append(releases, w.Release)
		}
	}
	safe, e := differencing.Safe(space, append(releases, r), protected, x.Margin)
	if e == api.OK && !safe {
		e = api.ErrExposed
	}
	return e
}

// guarded returns the whole table that a statement of a project asks for, and whether it asks for one, or why it may not be released.
func (x state) guarded(p api.Project, name string) (api.Release, bool, api.Errno) {
	r, whole, e := x.whole(p, name)
	if e == api.OK && whole {
		e = x.guard(r, p.Session.Extract)
	}
	return r, whole, e
}

func (x state) submit(e api.Event) (state, api.Errno) {
	at, approval, err := x.approved(e.Project)
	if err != api.OK {
		return x, err
	}
	p := x.Projects[at]
	if !slices.Contains(p.Session.Asked, e.Name) {
		return x, api.ErrNone
	}
	text, value, err := recompute.Make(x.First.Schema, p.Session.Extract, p.Session.Program, e.Name)
	if err != api.OK {
		return x, err
	}
	if breaches, err := rules.Breaches(x.Rules, value); err != api.OK || len(breaches) > 0 {
		return x, api.ErrRule
	}
	if _, _, err := x.guarded(p, e.Name); err != api.OK {
		return x, err
	}
	o := api.Output{Number: len(x.Outputs) + 1, Project: e.Project, Researcher: approval.Researcher, Time: x.Time, Text: text}
	outputs, err := desk.Submit(x.Outputs, x.Rota, x.Deadline, o)
	x.Outputs = outputs
	x.Concerns = slices.Concat(x.Concerns, []api.Concern{{Output: o.Number, Keys: value.Lineage}})
	return x, err
}

func (x state) sign(e api.Event) (state, api.Errno) {
	outputs, err := desk.Sign(x.Outputs, x.Rota, x.Deadline, e.Number, e.Person, x.Time, e.Text)
	x.Outputs = outputs
	return x, err
}

func (x state) refuse(e api.Event) (state, api.Errno) {
	outputs, err := desk.Refuse(x.Outputs, x.Rota, x.Deadline, e.Number, e.Person, x.Time)
	x.Outputs = outputs
	return x, err
}

func (x state) release(e api.Event) (state, api.Errno) {
	return x.leave(e.Number, api.EntryRelease, 0)
}

func (x state) supersede(e api.Event) (state, api.Errno) {
	return x.leave(e.Number, api.EntrySupersede, e.Of)
}

// leave lets an output leave, if it still says what its program computes, and puts it into the register.
func (x state) leave(number, kind, of int) (state, api.Errno) {
	if number < 1 || number > len(x.Outputs) {
		return x, api.ErrNumber
	}
	o := x.Outputs[number-1]
	outputs, err := desk.Release(x.Outputs, x.Rota, x.Deadline, number)
	if err != api.OK {
		return x, err
	}
	at := x.find(o.Project)
	if at < 0 {
		return x, api.ErrValue
	}
	p := x.Projects[at]
	if _, err := recompute.Check(x.First.Schema, p.Session.Extract, p.Session.Program, o.Text); err != api.OK {
		return x, api.ErrValue
	}
	name, _, _, _ := document.Parse(o.Text) // it was parsed by the check
	r, whole, err := x.guarded(p, name)
	if err != api.OK {
		return x, err
	}
	if whole {
		x.Wholes = slices.Concat(x.Wholes, []api.Whole{{Version: x.source.Version, Release: r}})
	}
	entries, err := register.Add(x.Register, kind, of, number, o.Text)
	x.Outputs, x.Register = outputs, entries
	return x, err
}

func (x state) withdraw(e api.Event) (state, api.Errno) {
	entries, err := register.Add(x.Register, api.EntryWithdraw, e.Number, 0, "")
	x.Register = entries
	return x, err
}
