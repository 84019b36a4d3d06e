package source

import (
	"slices"

	"dataenclave/api"
	"dataenclave/schema"
)

// Apply returns the source behind an edit.
func Apply(s api.Source, e api.Edit) (api.Source, api.Errno) { return At(s, []api.Edit{e}, 1) }

// At returns the source behind the first edits of a list.
func At(s api.Source, l []api.Edit, version int) (api.Source, api.Errno) {
	if version < 0 || version > len(l) {
		return api.Source{}, api.ErrVersion
	}
	if version == 0 {
		return s, api.OK
	}
	book, e := schema.Open(s.Schema)
	if e != api.OK || !valid(book, s) {
		return api.Source{}, api.ErrVersion
	}
	for _, edit := range l[:version] {
		// Behind an edit a valid source is valid, unless it has become too long.
		if s.Version == api.MaxEdits || len(s.Gone) > api.MaxEdits {
			return api.Source{}, api.ErrVersion
		}
		if e := change(book, &s, edit); e != api.OK {
			return api.Source{}, e
		}
		s.Version++
	}
	return s, api.OK
}

func change(book schema.Book, s *api.Source, e api.Edit) api.Errno {
	switch e.Kind {
	case api.EditAdd, api.EditReplace:
		return put(book, s, e)
	case api.EditRemove:
		at, there := place(s.Rows, e.Id)
		if !there {
			return api.ErrPerson
		}
		s.Rows = without(s.Rows, at)
		return api.OK
	case api.EditWithdraw:
		return withdraw(s, e.Id)
	}
	return api.ErrKind
}

// put adds a row, or puts it into the place of another one.
func put(book schema.Book, s *api.Source, e api.Edit) api.Errno {
	if !book.Fits(e.Row) {
		return api.ErrRow
	}
	if slices.Contains(s.Gone, e.Row[0]) {
		return api.ErrGone
	}
	at, there := place(s.Rows, e.Row[0])
	switch {
	case e.Kind == api.EditReplace && !there:
		return api.ErrPerson
	case e.Kind == api.EditReplace:
		s.Rows = slices.Clone(s.Rows)
		s.Rows[at] = e.Row
		return api.OK
	case there:
		return api.ErrDuplicate
	case len(s.Rows) == api.MaxRows:
		return api.ErrLimit
	}
	s.Rows = slices.Concat(s.Rows[:at], [][]int{e.Row}, s.Rows[at:])
	return api.OK
}

// withdraw takes a person and their row away for ever.
func withdraw(s *api.Source, id int) api.Errno {
	if id < 1 || id > api.MaxId {
		return api.ErrRange
	}
	at, gone := slices.BinarySearch(s.Gone, id)
	if gone {
		return api.ErrGone
	}
	s.Gone = slices.Concat(s.Gone[:at], []int{id}, s.Gone[at:])
	if at, there := place(s.Rows, id); there {
		s.Rows = without(s.Rows, at)
	}
	return api.OK
}

func without(rows [][]int, at int) [][]int { return slices.Concat(rows[:at], rows[at+1:]) }

// Touched returns the ids that some edits are about, ascending, each once.
func Touched(l []api.Edit, from, to int) []int {
	if from < 0 || from > to || to > len(l) {
		return nil
	}
	var ids []int
	for _, e := range l[from:to] {
		switch e.Kind {
		case api.EditAdd, api.EditReplace:
			if len(e.Row) > 0 {
				ids = append(ids, e.Row[0])
			}
		case api.EditRemove, api.EditWithdraw:
			ids = append(ids, e.Id)
		}
	}
	slices.Sort(ids)
	return slices.Compact(ids)
}
