package environment

import (
	"slices"

	"dataenclave/api"
	"dataenclave/approvals"
	"dataenclave/desk"
	"dataenclave/extract"
	"dataenclave/minimise"
	"dataenclave/refresh"
	"dataenclave/room"
	"dataenclave/rota"
	"dataenclave/source"
)

// step carries out an event of a kind.
type step func(x state, e api.Event) (state, api.Errno)

// steps returns what the kinds of events do.
func steps() map[int]step {
	return map[int]step{
		api.EventTime:      state.time,
		api.EventEdit:      state.edit,
		api.EventApprove:   state.approve,
		api.EventEnd:       state.end,
		api.EventDeclare:   state.declare,
		api.EventCommand:   state.command,
		api.EventRefresh:   state.refresh,
		api.EventSubmit:    state.submit,
		api.EventSign:      state.sign,
		api.EventRefuse:    state.refuse,
		api.EventRelease:   state.release,
		api.EventWithdraw:  state.withdraw,
		api.EventSupersede: state.supersede,
		api.EventShift:     state.shift,
	}
}

// Step carries out an event.
func Step(x api.Enclave, e api.Event) (api.Enclave, api.Errno) {
	s, err := open(x)
	if err != api.OK {
		return x, err
	}
	carry, ok := steps()[e.Kind]
	if !ok {
		return x, api.ErrKind
	}
	next, err := carry(s, e)
	if err != api.OK {
		return x, err
	}
	return next.Enclave, api.OK
}

func (x state) time(e api.Event) (state, api.Errno) {
	if e.Number < x.Time || e.Number > api.MaxTime {
		return x, api.ErrTime
	}
	outputs, _, err := desk.Expire(x.Outputs, x.Rota, x.Deadline, e.Number)
	x.Time, x.Outputs = e.Number, outputs
	return x, err
}

func (x state) edit(e api.Event) (state, api.Errno) {
	next, err := source.Apply(x.source, e.Edit)
	x.source = next
	x.Edits = slices.Concat(x.Edits, []api.Edit{e.Edit})
	return x, err
}

func (x state) approve(e api.Event) (state, api.Errno) {
	l, err := approvals.Add(x.Approvals, e.Approval)
	x.Approvals = l
	return x, err
}

func (x state) end(e api.Event) (state, api.Errno) {
	l, err := approvals.End(x.Approvals, e.Project, x.Time)
	x.Approvals = l
	return x, err
}

func (x state) shift(e api.Event) (state, api.Errno) {
	l, err := rota.Add(x.Rota, e.Shift)
	x.Rota = l
	return x, err
}

func (x state) declare(e api.Event) (state, api.Errno) {
	name := e.Declaration.Project
	if x.find(name) >= 0 {
		return x, api.ErrDuplicate
	}
	if _, ok := approvals.Active(x.Approvals, name, x.Time); !ok {
		return x, api.ErrApproval
	}
	if len(x.Projects) == api.MaxProjects {
		return x, api.ErrFull
	}
	picks, err := minimise.Plan(x.First.Schema, e.Declaration)
	if err != api.OK {
		return x, err
	}
	built, err := extract.Build(x.source, e.Declaration, picks, e.Number)
	if err != api.OK {
		return x, err
	}
	session, err := room.New(x.First.Schema, built)
	p := api.Project{Declaration: e.Declaration, Secret: e.Number, Session: session}
	place := slices.IndexFunc(x.Projects, func(other api.Project) bool { return other.Declaration.Project > name })
	if place < 0 {
		place = len(x.Projects)
	}
	x.Projects = slices.Concat(x.Projects[:place], []api.Project{p}, x.Projects[place:])
	return x, err
}

func (x state) command(e api.Event) (state, api.Errno) {
	at, _, err := x.approved(e.Project)
	if err != api.OK {
		return x, err
	}
	if e.Command.Kind == api.CommandChange {
		return x, api.ErrKind
	}
	session, err := room.Apply(x.First.Schema, x.Projects[at].Session, e.Command)
	return x.enter(at, session), err
}

// refresh brings the extract of a project to the version of the source. What waits and depends on what changed is refused.
func (x state) refresh(e api.Event) (state, api.Errno) {
	at, _, err := x.approved(e.Project)
	if err != api.OK {
		return x, err
	}
	p := x.Projects[at]
	built, err := extract.Build(x.source, p.Declaration, p.Session.Extract.Picks, p.Secret)
	if err != api.OK {
		return x, err
	}
	change, err := refresh.Diff(p.Session.Extract, built)
	if err != api.OK {
		return x, err
	}
	session, err := room.Apply(x.First.Schema, p.Session, api.Command{Kind: api.CommandChange, Change: change})
	x.Outputs = slices.Clone(x.Outputs)
	for i, o := range x.Outputs {
		open := o.State == api.OutputPending || o.State == api.OutputSigned
		if open && o.Project == e.Project && refresh.Stale(change, x.Concerns[i].Keys) {
			x.Outputs[i].State = api.OutputRefused
		}
	}
	return x.enter(at, session), err
}
