package environment

import (
	"slices"

	"dataenclave/api"
	"dataenclave/approvals"
	"dataenclave/corrections"
	"dataenclave/declaration"
	"dataenclave/desk"
	"dataenclave/equations"
	"dataenclave/register"
	"dataenclave/room"
	"dataenclave/rules"
	"dataenclave/source"
)

// maxSecret is the greatest secret of a project.
const maxSecret = 1<<60 - 1

// state is a valid environment, with its source.
type state struct {
	api.Enclave
	source api.Source
}

// open returns the state of a valid environment, or api.ErrState.
func open(x api.Enclave) (state, api.Errno) {
	if !source.Valid(x.First) || x.First.Version != 0 {
		return state{}, api.ErrState
	}
	s, e := source.At(x.First, x.Edits, len(x.Edits))
	if e != api.OK {
		return state{}, api.ErrState
	}
	all := state{Enclave: x, source: s}
	if !all.numbersFit() || !all.deskFits() || !all.projectsFit() || !all.wholesFit() || register.Check(x.Register) != api.OK {
		return state{}, api.ErrState
	}
	return all, api.OK
}

func (x state) numbersFit() bool {
	return 0 <= x.Time && x.Time <= api.MaxTime && 1 <= x.Margin && x.Margin <= api.MaxMargin &&
		approvals.Check(x.Approvals) == api.OK && rules.Check(x.Rules) == api.OK
}

// deskFits reports whether the outputs are right, and each one has its keys.
func (x state) deskFits() bool {
	if desk.Check(x.Outputs, x.Rota, x.Deadline) != api.OK || len(x.Concerns) != len(x.Outputs) {
		return false
	}
	for i, c := range x.Concerns {
		if c.Output != x.Outputs[i].Number {
			return false
		}
	}
	_, e := corrections.Concerned(x.Concerns, nil)
	return e == api.OK
}

func (x state) projectsFit() bool {
	if len(x.Projects) > api.MaxProjects {
		return false
	}
	for i, p := range x.Projects {
		name := p.Declaration.Project
		switch {
		case i > 0 && x.Projects[i-1].Declaration.Project >= name,
			declaration.Check(x.First.Schema, p.Declaration) != api.OK,
			p.Secret < 0 || p.Secret > maxSecret,
			room.Check(x.First.Schema, p.Session) != api.OK,
			p.Session.Project != name:
			return false
		}
	}
	return true
}

func (x state) wholesFit() bool {
	if len(x.Wholes) == 0 {
		return true
	}
	version := 0
	var releases []api.Release
	for i, w := range x.Wholes {
		if w.Version < version || w.Version > x.source.Version || w.Release.Number != i {
			return false
		}
		version = w.Version
		releases = append(releases, w.Release)
	}
	space, _, e := equations.Space(x.First.Schema)
	return e == api.OK && equations.Check(space, releases) == api.OK
}

// find returns the place of a project, -1 if it is not there.
func (x state) find(project string) int {
	return slices.IndexFunc(x.Projects, func(p api.Project) bool { return p.Declaration.Project == project })
}

// approved returns a project that is approved now, its place and its approval, or the first error.
func (x state) approved(project string) (int, api.Approval, api.Errno) {
	at := x.find(project)
	if at < 0 {
		return 0, api.Approval{}, api.ErrNumber
	}
	a, ok := approvals.Active(x.Approvals, project, x.Time)
	if !ok {
		return 0, api.Approval{}, api.ErrApproval
	}
	return at, a, api.OK
}

// enter puts a session into the place of that of a project.
func (x state) enter(at int, session api.Session) state {
	x.Projects = slices.Clone(x.Projects)
	x.Projects[at].Session = session
	return x
}
