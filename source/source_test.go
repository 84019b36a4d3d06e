package source_test

import (
	"fmt"
	"slices"
	"testing"

	"dataenclave/api"
	"dataenclave/example"
	"dataenclave/source"
)

func want(t *testing.T, name string, got, want any) {
	t.Helper()
	if fmt.Sprintf("%+v", got) != fmt.Sprintf("%+v", want) {
		t.Errorf("%s: got %+v, want %+v", name, got, want)
	}
}

// small is a schema with a measure alone.
func small() api.Schema {
	return api.Schema{Columns: []api.Column{{Name: "p", Kind: api.ColumnId}, {Name: "m", Kind: api.ColumnMeasure, High: 9, Widths: []int{1}}}}
}

func people(ids ...int) [][]int {
	var l [][]int
	for _, id := range ids {
		l = append(l, []int{id, id % 10})
	}
	return l
}

func count(n int) []int {
	var l []int
	for i := range n {
		l = append(l, i+1)
	}
	return l
}

func some() api.Source {
	return api.Source{Schema: small(), Rows: people(2, 5, 9), Gone: []int{4, 7}, Version: 6}
}

func with(change func(s *api.Source)) api.Source {
	s := some()
	change(&s)
	return s
}

// TestNew is about P4.1.
func TestNew(t *testing.T) {
	rows := people(9, 2, 5)
	s, e := source.New(small(), rows)
	want(t, "error", e, api.OK)
	want(t, "source", s, api.Source{Schema: small(), Rows: people(2, 5, 9)})
	want(t, "the rows stay", rows, people(9, 2, 5))
	bad := small()
	bad.Columns[1].Name = ""
	for _, c := range []struct {
		name string
		s    api.Schema
		rows [][]int
		e    api.Errno
	}{
		{"the schema first", bad, people(count(201)...), api.ErrName},
		{"all rows", small(), people(count(200)...), api.OK},
		{"too many before wrong ones", small(), append(people(count(200)...), []int{}), api.ErrLimit},
		{"a row that does not fit", small(), [][]int{{1, 10}}, api.ErrRow},
		{"an empty row", small(), [][]int{{1, 1}, {}}, api.ErrRow},
		{"twice before a wrong one", small(), [][]int{{1, 1}, {1, 2}, {3, 10}}, api.ErrRow},
		{"twice", small(), [][]int{{1, 1}, {2, 2}, {1, 2}}, api.ErrDuplicate},
		{"nothing", small(), nil, api.OK},
	} {
		s, e := source.New(c.s, c.rows)
		want(t, c.name, e, c.e)
		if e != api.OK {
			want(t, c.name, s, api.Source{})
		} else {
			want(t, c.name, source.Valid(s), true)
		}
	}
}

// TestValid is about P4.1.
func TestValid(t *testing.T) {
	for _, c := range []struct {
		name string
		s    api.Source
		is   bool
	}{
		{"some", some(), true},
		{"the example", api.Source{Schema: example.Schema(), Rows: example.Rows()}, true},
		{"a wrong schema", with(func(s *api.Source) { s.Schema.Columns[0].Name = "to" }), false},
		{"no schema", api.Source{}, false},
		{"all rows", with(func(s *api.Source) { s.Rows, s.Gone = people(count(200)...), nil }), true},
		{"too many rows", with(func(s *api.Source) { s.Rows, s.Gone = people(count(201)...), nil }), false},
		{"a row that does not fit", with(func(s *api.Source) { s.Rows[1][1] = 10 }), false},
		{"an empty row", with(func(s *api.Source) { s.Rows[1] = nil }), false},
		{"rows that descend", with(func(s *api.Source) { s.Rows = people(5, 2, 9) }), false},
		{"a row twice", with(func(s *api.Source) { s.Rows = people(2, 2, 9) }), false},
		{"a row of a person who is gone", with(func(s *api.Source) { s.Rows = people(2, 7, 9) }), false},
		{"gone twice", with(func(s *api.Source) { s.Gone = []int{4, 4} }), false},
		{"gone that descends", with(func(s *api.Source) { s.Gone = []int{7, 4} }), false},
		{"gone below 1", with(func(s *api.Source) { s.Gone = []int{0, 4} }), false},
		{"gone at 1", with(func(s *api.Source) { s.Gone = []int{1, 4} }), true},
		{"gone at the greatest", with(func(s *api.Source) { s.Gone = []int{1, api.MaxId} }), true},
		{"gone above the greatest", with(func(s *api.Source) { s.Gone = []int{1, api.MaxId + 1} }), false},
		{"all gone", with(func(s *api.Source) { s.Rows, s.Gone = nil, count(300) }), true},
		{"too many gone", with(func(s *api.Source) { s.Rows, s.Gone = nil, count(301) }), false},
		{"a version below 0", with(func(s *api.Source) { s.Version = -1 }), false},
		{"the version 0", with(func(s *api.Source) { s.Version = 0 }), true},
		{"the last version", with(func(s *api.Source) { s.Version = api.MaxEdits }), true},
		{"a version too great", with(func(s *api.Source) { s.Version = api.MaxEdits + 1 }), false},
	} {
		want(t, c.name, source.Valid(c.s), c.is)
	}
}

// TestApply is about P4.2: what edits do.
func TestApply(t *testing.T) {
	for _, c := range []struct {
		name string
		e    api.Edit
		rows [][]int
		gone []int
	}{
		{"add", api.Edit{Kind: api.EditAdd, Row: []int{3, 1}, Id: 99}, [][]int{{2, 2}, {3, 1}, {5, 5}, {9, 9}}, []int{4, 7}},
		{"add first", api.Edit{Kind: api.EditAdd, Row: []int{1, 0}}, [][]int{{1, 0}, {2, 2}, {5, 5}, {9, 9}}, []int{4, 7}},
		{"add last", api.Edit{Kind: api.EditAdd, Row: []int{10, 0}}, [][]int{{2, 2}, {5, 5}, {9, 9}, {10, 0}}, []int{4, 7}},
		{"replace", api.Edit{Kind: api.EditReplace, Row: []int{5, 0}, Id: 4}, [][]int{{2, 2}, {5, 0}, {9, 9}}, []int{4, 7}},
		{"remove", api.Edit{Kind: api.EditRemove, Id: 2, Row: []int{5, 99}}, [][]int{{5, 5}, {9, 9}}, []int{4, 7}},
		{"withdraw with a row", api.Edit{Kind: api.EditWithdraw, Id: 5, Row: []int{}}, [][]int{{2, 2}, {9, 9}}, []int{4, 5, 7}},
		{"withdraw without a row", api.Edit{Kind: api.EditWithdraw, Id: 8}, [][]int{{2, 2}, {5, 5}, {9, 9}}, []int{4, 7, 8}},
		{"withdraw the least id", api.Edit{Kind: api.EditWithdraw, Id: 1}, [][]int{{2, 2}, {5, 5}, {9, 9}}, []int{1, 4, 7}},
		{"withdraw the greatest id", api.Edit{Kind: api.EditWithdraw, Id: api.MaxId}, [][]int{{2, 2}, {5, 5}, {9, 9}}, []int{4, 7, api.MaxId}},
	} {
		before := some()
		before.Rows, before.Gone = slices.Grow(before.Rows, 5), slices.Grow(before.Gone, 5)
		s, e := source.Apply(before, c.e)
		want(t, c.name, e, api.OK)
		want(t, c.name, s, api.Source{Schema: small(), Rows: c.rows, Gone: c.gone, Version: 7})
		want(t, c.name+": before", before, some())
		want(t, c.name+": spare capacity", fmt.Sprint(before.Rows[:5][3:], before.Gone[:4][2:]), "[[] []] [0 0]")
	}
}

// TestApplyErrors is about P4.2: errors, of which the first one counts.
func TestApplyErrors(t *testing.T) {
	full := api.Source{Schema: small(), Rows: people(count(200)...), Gone: []int{900}}
	last := with(func(s *api.Source) { s.Version = api.MaxEdits })
	for _, c := range []struct {
		name string
		s    api.Source
		e    api.Edit
		want api.Errno
	}{
		{"not valid", with(func(s *api.Source) { s.Gone = []int{5} }), api.Edit{Kind: 9}, api.ErrVersion},
		{"a wrong schema", api.Source{}, api.Edit{Kind: 1}, api.ErrVersion},
		{"the last version", last, api.Edit{Kind: 9}, api.ErrVersion},
		{"no kind", some(), api.Edit{Kind: 0, Id: 4}, api.ErrKind},
		{"no kind", some(), api.Edit{Kind: 5, Id: 4}, api.ErrKind},
		{"add what does not fit", some(), api.Edit{Kind: api.EditAdd, Row: []int{4, 10}}, api.ErrRow},
		{"add nothing", some(), api.Edit{Kind: api.EditAdd}, api.ErrRow},
		{"replace by what does not fit", some(), api.Edit{Kind: api.EditReplace, Row: []int{4}}, api.ErrRow},
		{"add who is gone", some(), api.Edit{Kind: api.EditAdd, Row: []int{4, 1}}, api.ErrGone},
		{"replace who is gone", some(), api.Edit{Kind: api.EditReplace, Row: []int{7, 1}}, api.ErrGone},
		{"add who is there", some(), api.Edit{Kind: api.EditAdd, Row: []int{5, 1}}, api.ErrDuplicate},
		{"replace who is not there", some(), api.Edit{Kind: api.EditReplace, Row: []int{6, 1}}, api.ErrPerson},
		{"remove who is not there", some(), api.Edit{Kind: api.EditRemove, Id: 6}, api.ErrPerson},
		{"remove who is gone", some(), api.Edit{Kind: api.EditRemove, Id: 4}, api.ErrPerson},
		{"withdraw 0", some(), api.Edit{Kind: api.EditWithdraw, Id: 0}, api.ErrRange},
		{"withdraw too much", some(), api.Edit{Kind: api.EditWithdraw, Id: api.MaxId + 1}, api.ErrRange},
		{"withdraw twice", some(), api.Edit{Kind: api.EditWithdraw, Id: 4}, api.ErrGone},
		{"add to a full one who is gone", full, api.Edit{Kind: api.EditAdd, Row: []int{900, 1}}, api.ErrGone},
		{"add to a full one who is there", full, api.Edit{Kind: api.EditAdd, Row: []int{3, 1}}, api.ErrDuplicate},
		{"add to a full one", full, api.Edit{Kind: api.EditAdd, Row: []int{201, 1}}, api.ErrLimit},
		{"replace in a full one", full, api.Edit{Kind: api.EditReplace, Row: []int{200, 1}}, api.OK},
		{"remove from the last version but one", with(func(s *api.Source) { s.Version = api.MaxEdits - 1 }), api.Edit{Kind: api.EditRemove, Id: 2}, api.OK},
	} {
		s, e := source.Apply(c.s, c.e)
		want(t, c.name, e, c.want)
		if c.want != api.OK {
			want(t, c.name, s, api.Source{})
		}
	}
}

// TestGoneForEver is about P4.2: who has withdrawn cannot be added again.
func TestGoneForEver(t *testing.T) {
	s := some()
	for _, c := range []struct {
		e    api.Edit
		want api.Errno
	}{
		{api.Edit{Kind: api.EditWithdraw, Id: 9}, api.OK},
		{api.Edit{Kind: api.EditWithdraw, Id: 9}, api.ErrGone},
		{api.Edit{Kind: api.EditAdd, Row: []int{9, 9}}, api.ErrGone},
		{api.Edit{Kind: api.EditRemove, Id: 9}, api.ErrPerson},
	} {
		next, e := source.Apply(s, c.e)
		want(t, fmt.Sprintf("%+v", c.e), e, c.want)
		if e == api.OK {
			s = next
		}
	}
}

func edits() []api.Edit {
	return []api.Edit{
		{Kind: api.EditAdd, Row: []int{8, 1}},
		{Kind: api.EditReplace, Row: []int{2, 7}},
		{Kind: api.EditWithdraw, Id: 8},
		{Kind: api.EditRemove, Id: 5},
		{Kind: api.EditRemove, Id: 5},
		{Kind: api.EditAdd},
	}
}

// TestAt is about P4.3.
func TestAt(t *testing.T) {
	s := some()
	for version := range 5 {
		got, e := source.At(some(), edits(), version)
		want(t, "error", e, api.OK)
		want(t, fmt.Sprint("version ", version), got, s)
		s, _ = source.Apply(s, edits()[version])
	}
	for _, c := range []struct {
		version int
		e       api.Errno
	}{{-1, api.ErrVersion}, {7, api.ErrVersion}, {5, api.ErrPerson}, {6, api.ErrPerson}} {
		got, e := source.At(some(), edits(), c.version)
		want(t, fmt.Sprint("version ", c.version), e, c.e)
		want(t, "nothing", got, api.Source{})
	}
	bad := api.Source{Rows: people(1)}
	got, e := source.At(bad, edits(), 0)
	want(t, "no edit of a wrong source", fmt.Sprintf("%v %v", got, e), fmt.Sprintf("%v %v", bad, api.OK))
	_, e = source.At(bad, edits(), 1)
	want(t, "an edit of a wrong source", e, api.ErrVersion)
}

// TestLong is about P4.3: sources of which too many are gone, or that have had all edits.
func TestLong(t *testing.T) {
	full := api.Source{Schema: small(), Gone: count(299)}
	l := []api.Edit{{Kind: api.EditWithdraw, Id: 300}, {Kind: api.EditWithdraw, Id: 301}, {Kind: api.EditWithdraw, Id: 302}}
	for version, should := range []api.Errno{api.OK, api.OK, api.OK, api.ErrVersion} {
		s, e := source.At(full, l, version)
		want(t, fmt.Sprint("gone ", version), fmt.Sprint(len(s.Gone), e), fmt.Sprint([]int{299, 300, 301, 0}[version], should))
	}
	s, _ := source.At(full, l, 2)
	want(t, "too many are gone", source.Valid(s), false)
	last := api.Source{Schema: small(), Version: 298}
	for version, should := range []api.Errno{api.OK, api.OK, api.OK, api.ErrVersion} {
		s, e := source.At(last, l, version)
		want(t, fmt.Sprint("version ", version), fmt.Sprint(s.Version, e), fmt.Sprint([]int{298, 299, 300, 0}[version], should))
	}
}

// TestFind is about P4.4.
func TestFind(t *testing.T) {
	for id, row := range map[int]int{2: 0, 5: 1, 9: 2, 1: -1, 4: -1, 10: -1, -5: -1} {
		want(t, fmt.Sprint("find ", id), source.Find(some(), id), row)
	}
	odd := api.Source{Rows: [][]int{{}, {9}, {3, 1, 2}, {9, 9}, {-5}}}
	want(t, "in any source", []int{source.Find(odd, 9), source.Find(odd, 3), source.Find(odd, -5), source.Find(odd, 0)}, []int{1, 2, 4, -1})
}

// TestTouched is about P4.4.
func TestTouched(t *testing.T) {
	l := append(edits(), api.Edit{Kind: 9, Id: 77, Row: []int{78}}, api.Edit{Kind: api.EditReplace, Id: 76, Row: []int{-3}}, api.Edit{Kind: api.EditWithdraw, Id: -9, Row: []int{75}}, api.Edit{Kind: api.EditReplace})
	for _, c := range []struct {
		from, to int
		ids      []int
	}{
		{0, 10, []int{-9, -3, 2, 5, 8}}, {0, 3, []int{2, 8}}, {2, 5, []int{5, 8}}, {5, 7, nil}, {7, 8, []int{-3}}, {0, 0, nil}, {10, 10, nil}, {3, 3, nil},
		{-1, 3, nil}, {0, 11, nil}, {3, 2, nil}, {11, 11, nil},
	} {
		want(t, fmt.Sprint(c.from, " to ", c.to), source.Touched(l, c.from, c.to), c.ids)
	}
}

// TestOnlyTouched is about P4.4: between two versions only rows of persons in Touched differ.
func TestOnlyTouched(t *testing.T) {
	for from := range 5 {
		for to := from; to < 5; to++ {
			a, _ := source.At(some(), edits(), from)
			b, _ := source.At(some(), edits(), to)
			for id := range 12 {
				if slices.Contains(source.Touched(edits(), from, to), id) {
					continue
				}
				i, k := source.Find(a, id), source.Find(b, id)
				want(t, "is there", i < 0, k < 0)
				if i >= 0 && k >= 0 {
					want(t, "row", a.Rows[i], b.Rows[k])
				}
			}
		}
	}
}
