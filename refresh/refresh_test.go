package refresh_test

import (
	"fmt"
	"math/rand"
	"slices"
	"testing"

	"dataenclave/api"
	"dataenclave/example"
	"dataenclave/extract"
	"dataenclave/minimise"
	"dataenclave/pseudonym"
	"dataenclave/refresh"
	"dataenclave/source"
)

func want(t *testing.T, name string, got, want any) {
	t.Helper()
	if fmt.Sprintf("%+v", got) != fmt.Sprintf("%+v", want) {
		t.Errorf("%s: got %+v, want %+v", name, got, want)
	}
}

// of makes an extract with a pick.
func of(version int, rows ...[]int) api.Extract {
	return api.Extract{Project: "p", Version: version, Picks: example.Picks(3, 1), Rows: rows}
}

func change(version int, gone []int, rows ...[]int) api.Change {
	return api.Change{Version: version, Gone: gone, Rows: rows}
}

// TestDiff is about P14.1.
func TestDiff(t *testing.T) {
	a := of(4, []int{2, 20}, []int{5, 0}, []int{7, 40}, []int{9, 60})
	b := of(9, []int{1, 80}, []int{5, 0}, []int{7, 20}, []int{10, 0})
	c, e := refresh.Diff(a, b)
	want(t, "diff", fmt.Sprint(c, e), fmt.Sprint(change(9, []int{2, 9}, []int{1, 80}, []int{7, 20}, []int{10, 0}), api.OK))
	c, e = refresh.Diff(a, a)
	want(t, "with itself", fmt.Sprint(c, e), fmt.Sprint(change(4, nil), api.OK))
	c, e = refresh.Diff(of(0, []int{-3}, []int{4, 1, 2}), of(-7, []int{-3, 0}, []int{4, 1, 2}))
	want(t, "rows of any length", fmt.Sprint(c, e), fmt.Sprint(change(-7, nil, []int{-3, 0}), api.OK))
	other := of(4)
	other.Project = "q"
	coarser := of(4)
	coarser.Picks = example.Picks(3, 0)
	empty := of(4, nil)
	empty.Project = "q"
	for _, x := range []struct {
		name string
		a, b api.Extract
		e    api.Errno
	}{
		{"an empty row before another project", a, empty, api.ErrForm},
		{"an empty row", of(4, []int{1, 2}, []int{}), a, api.ErrForm},
		{"a key twice", of(4, []int{1, 2}, []int{1, 3}), a, api.ErrForm},
		{"keys that descend", a, of(4, []int{2, 2}, []int{1, 3}), api.ErrForm},
		{"another project", a, other, api.ErrPlan},
		{"other picks", coarser, a, api.ErrPlan},
	} {
		c, e := refresh.Diff(x.a, x.b)
		want(t, x.name, fmt.Sprint(c, e), fmt.Sprint(api.Change{}, x.e))
	}
}

// TestApply is about P14.2.
func TestApply(t *testing.T) {
	a := of(4, []int{2, 20}, []int{5, 0}, []int{7, 40})
	x, e := refresh.Apply(a, change(9, []int{5}, []int{1, 80}, []int{7, 20}, []int{8, 0}))
	want(t, "apply", fmt.Sprint(x, e), fmt.Sprint(of(9, []int{1, 80}, []int{2, 20}, []int{7, 20}, []int{8, 0}), api.OK))
	want(t, "it stays", a, of(4, []int{2, 20}, []int{5, 0}, []int{7, 40}))
	x, e = refresh.Apply(a, change(-1, nil))
	want(t, "nothing but the version", fmt.Sprint(x, e), fmt.Sprint(of(-1, []int{2, 20}, []int{5, 0}, []int{7, 40}), api.OK))
	for _, c := range []struct {
		name string
		a    api.Extract
		c    api.Change
		e    api.Errno
	}{
		{"an extract that is not ordered", of(4, []int{2, 20}, []int{2, 0}), change(9, []int{77}), api.ErrForm},
		{"an empty row of the extract", of(4, []int{}), change(9, nil), api.ErrForm},
		{"gone twice", a, change(9, []int{5, 5}), api.ErrForm},
		{"gone that descends", a, change(9, []int{5, 2}), api.ErrForm},
		{"rows that descend", a, change(9, []int{77}, []int{5, 2}, []int{4, 2}), api.ErrForm},
		{"a row twice", a, change(9, nil, []int{5, 2}, []int{5, 2}), api.ErrForm},
		{"an empty row", a, change(9, nil, []int{}), api.ErrForm},
		{"a short row", a, change(9, nil, []int{5}), api.ErrForm},
		{"a long row", a, change(9, nil, []int{3, 0}, []int{5, 0, 0}), api.ErrForm},
		{"gone that is not there", a, change(9, []int{5, 6}, []int{5, 0}), api.ErrNone},
		{"gone and a row", a, change(9, []int{2, 5}, []int{5, 0}), api.ErrDuplicate},
		{"gone and another row", a, change(9, []int{5}, []int{6, 0}), api.OK},
	} {
		x, e := refresh.Apply(c.a, c.c)
		want(t, c.name, e, c.e)
		if e != api.OK {
			want(t, c.name, x, api.Extract{})
		}
	}
}

// TestThereAndBack is about P14.1 and P14.2: Apply of Diff is the other extract.
func TestThereAndBack(t *testing.T) {
	r := rand.New(rand.NewSource(3))
	random := func() api.Extract {
		var rows [][]int
		for key := range 12 {
			if r.Intn(2) == 0 {
				rows = append(rows, []int{key, r.Intn(2)})
			}
		}
		return of(r.Intn(100), rows...)
	}
	for range 300 {
		a, b := random(), random()
		c, e := refresh.Diff(a, b)
		want(t, "diff", e, api.OK)
		again, e := refresh.Apply(a, c)
		want(t, fmt.Sprint(a, b), fmt.Sprint(again, e), fmt.Sprint(b, api.OK))
		touched := append(slices.Clone(c.Gone), refresh.Keys(change(0, nil, c.Rows...))...)
		slices.Sort(touched)
		want(t, "keys", refresh.Keys(c), touched)
	}
}

// TestKeysAndStale is about P14.3.
func TestKeysAndStale(t *testing.T) {
	c := change(1, []int{9, 3, 3}, []int{7, 1}, nil, []int{3}, []int{4}, []int{-2, 5})
	want(t, "keys", refresh.Keys(c), []int{-2, 3, 4, 7, 9})
	want(t, "they stay", c.Gone, []int{9, 3, 3})
	want(t, "of nothing", refresh.Keys(change(1, nil)), []int{})
	for _, x := range []struct {
		lineage []int
		is      bool
	}{{nil, false}, {[]int{1, 2, 5}, false}, {[]int{7}, true}, {[]int{8, 100, 9}, true}, {[]int{-2}, true}, {[]int{5}, false}, {[]int{0}, false}} {
		want(t, fmt.Sprint(x.lineage), refresh.Stale(c, x.lineage), x.is)
	}
	want(t, "nothing is stale", refresh.Stale(change(1, nil, nil), []int{0, 1}), false)
}

// TestTouched is about P14.3.
func TestTouched(t *testing.T) {
	l := []api.Edit{{Kind: api.EditAdd, Row: []int{8}}, {Kind: api.EditRemove, Id: 700}, {Kind: api.EditWithdraw, Id: -1}, {Kind: api.EditReplace, Row: []int{1 << 20}}, {Kind: api.EditRemove, Id: 31}, {Kind: api.EditRemove, Id: 700}}
	keys := []int{pseudonym.Key(77, 8), pseudonym.Key(77, 700), pseudonym.Key(77, 31)}
	slices.Sort(keys)
	want(t, "touched", refresh.Touched(l, 0, 6, 77), keys)
	want(t, "some of them", refresh.Touched(l, 1, 2, 77), []int{pseudonym.Key(77, 700)})
	want(t, "the key 0", refresh.Touched([]api.Edit{{Kind: api.EditRemove, Id: pseudonym.Id(77, 0)}}, 0, 1, 77), []int{0})
	want(t, "no secret", refresh.Touched(l, 0, 6, -1), []int{})
	want(t, "no such edits", refresh.Touched(l, 0, 7, 77), []int{})
}

// TestOnlyTouched is about P14.3: between the extracts of two versions only rows with keys in Touched differ.
func TestOnlyTouched(t *testing.T) {
	first := api.Source{Schema: example.Schema(), Rows: example.Rows()}
	edits := []api.Edit{
		{Kind: api.EditReplace, Row: []int{1, 5, 2, 34, 1200, 10, 4}},
		{Kind: api.EditAdd, Row: []int{77, 3, 1, 30, 5, 5, 3}},
		{Kind: api.EditWithdraw, Id: 9},
		{Kind: api.EditReplace, Row: []int{2, 3, 2, 5, -50, 22, 4}},
	}
	d := example.Declaration()
	picks, _ := minimise.Plan(first.Schema, d)
	for from := range len(edits) + 1 {
		for to := from; to <= len(edits); to++ {
			a, _ := source.At(first, edits, from)
			b, _ := source.At(first, edits, to)
			x, _ := extract.Build(a, d, picks, 5)
			y, _ := extract.Build(b, d, picks, 5)
			c, e := refresh.Diff(x, y)
			want(t, "diff", e, api.OK)
			touched := refresh.Touched(edits, from, to, 5)
			for _, key := range refresh.Keys(c) {
				want(t, fmt.Sprint("key ", key), slices.Contains(touched, key), true)
			}
		}
	}
}
