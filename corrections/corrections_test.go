package corrections_test

import (
	"fmt"
	"testing"

	"dataenclave/api"
	"dataenclave/corrections"
	"dataenclave/example"
	"dataenclave/extract"
	"dataenclave/lineage"
	"dataenclave/minimise"
	"dataenclave/program"
	"dataenclave/recompute"
	"dataenclave/refresh"
	"dataenclave/source"
)

func want(t *testing.T, name string, got, want any) {
	t.Helper()
	if fmt.Sprintf("%+v", got) != fmt.Sprintf("%+v", want) {
		t.Errorf("%s: got %+v, want %+v", name, got, want)
	}
}

func concern(output int, keys ...int) api.Concern { return api.Concern{Output: output, Keys: keys} }

// TestConcerned is about P40.1.
func TestConcerned(t *testing.T) {
	l := []api.Concern{concern(1, 3, 5), concern(2, 4)}
	got, e := corrections.Concerned(l, []int{5, 6})
	want(t, "the chapter's example", fmt.Sprint(got, e), fmt.Sprint([]api.Concern{concern(1, 5)}, api.OK))
	l = []api.Concern{concern(9, 0, 7, api.MaxId), concern(9), concern(-4, 1, 2, 3, 7), concern(3, 8)}
	keys := []int{7, api.MaxId, 7, -5, 2, 1 << 40, 0}
	got, e = corrections.Concerned(l, keys)
	want(t, "any keys", fmt.Sprint(got, e), fmt.Sprint([]api.Concern{concern(9, 0, 7, api.MaxId), concern(-4, 2, 7)}, api.OK))
	want(t, "they stay", keys, []int{7, api.MaxId, 7, -5, 2, 1 << 40, 0})
	got, e = corrections.Concerned(l, nil)
	want(t, "no keys", fmt.Sprint(got, e), "[] 0")
	got, e = corrections.Concerned(make([]api.Concern, 40), []int{1})
	want(t, "40 outputs", fmt.Sprint(got, e), "[] 0")
	for i, c := range []struct {
		l []api.Concern
		e api.Errno
	}{
		{append(make([]api.Concern, 40), concern(1, 2, 1)), api.ErrLimit}, {[]api.Concern{concern(1, 5), concern(1, 2, 1)}, api.ErrForm}, {[]api.Concern{concern(1, 1, 1)}, api.ErrForm}, {[]api.Concern{concern(1, -1, 1)}, api.ErrForm}, {[]api.Concern{concern(1, 1, api.MaxId+1)}, api.ErrForm},
	} {
		got, e := corrections.Concerned(c.l, []int{5})
		want(t, fmt.Sprint(i), fmt.Sprint(got, e), fmt.Sprint([]api.Concern{}, c.e))
	}
}

const secret = 424242

// history is a source, and edits of it.
func history() (api.Source, []api.Edit) {
	first := api.Source{Schema: example.Schema(), Rows: example.Rows()}
	return first, []api.Edit{
		{Kind: api.EditReplace, Row: []int{1, 5, 2, 34, 1200, 10, 4}},
		{Kind: api.EditAdd, Row: []int{77, 3, 1, 30, 5, 5, 3}},
		{Kind: api.EditReplace, Row: []int{30, 4, 1, 5, 310, 31, 3}}, // who is too young for the cohort
		{Kind: api.EditWithdraw, Id: 9},
		{Kind: api.EditWithdraw, Id: 9},
	}
}

func setting(t *testing.T) (api.Declaration, []api.Pick, []api.Statement) {
	t.Helper()
	d := example.Declaration()
	picks, _ := minimise.Plan(example.Schema(), d)
	l, line, e := program.Parse(example.Schema(), "out n = count(sex under f)\nout t = table(area/1, sex/1; income; all)\nlet m = 1\n")
	if e != api.OK {
		t.Fatal(line, e)
	}
	return d, picks, l
}

// TestBetween is about P40.1.
func TestBetween(t *testing.T) {
	_, l := history()
	for from := range 6 {
		for to := from; to < 6; to++ {
			got, e := corrections.Between(l, from, to, secret)
			want(t, fmt.Sprint(from, to), fmt.Sprint(got, e), fmt.Sprint(refresh.Touched(l, from, to, secret), api.OK))
		}
	}
	for i, c := range []struct {
		from, to, secret int
		e                api.Errno
	}{{-1, 2, -1, api.ErrVersion}, {3, 2, -1, api.ErrVersion}, {0, 6, -1, api.ErrVersion}, {6, 6, 5, api.ErrVersion}, {0, 5, -1, api.ErrRange}, {0, 5, 1 << 60, api.ErrRange}, {0, 5, 1<<60 - 1, api.OK}, {0, 5, 0, api.OK}} {
		got, e := corrections.Between(l, c.from, c.to, c.secret)
		want(t, fmt.Sprint(i), fmt.Sprint(len(got) > 0, e), fmt.Sprint(c.e == api.OK, c.e))
	}
}

// TestExplain is about P40.2.
func TestExplain(t *testing.T) {
	first, l := history()
	d, picks, p := setting(t)
	texts := map[string]bool{}
	for version := range 5 {
		s, _ := source.At(first, l, version)
		x, _ := extract.Build(s, d, picks, secret)
		for _, name := range []string{"n", "t"} {
			should, _, e := recompute.Make(s.Schema, x, p, name)
			want(t, "made", e, api.OK)
			got, e := corrections.Explain(first, l, version, d, picks, secret, p, name)
			want(t, fmt.Sprint(version, name), fmt.Sprint(got, e), fmt.Sprint(should, api.OK))
			again, e := corrections.Explain(first, l[:version], version, d, picks, secret, p, name)
			want(t, "later edits do not matter", fmt.Sprint(again, e), fmt.Sprint(got, api.OK))
			texts[got] = true
		}
	}
	want(t, "they are different", len(texts) > 5, true)
	for i, c := range []struct {
		version, secret int
		picks           []api.Pick
		name            string
		e               api.Errno
	}{
		{-1, -1, nil, "", api.ErrVersion}, {6, -1, nil, "", api.ErrVersion}, {5, -1, nil, "", api.ErrGone}, {4, -1, nil, "", api.ErrPlan}, {4, -1, picks, "", api.ErrRange}, {4, 5, picks, "m", api.ErrName}, {4, 5, picks, "n", api.OK},
	} {
		got, e := corrections.Explain(first, l, c.version, d, c.picks, c.secret, p, c.name)
		want(t, fmt.Sprint(i), fmt.Sprint(got != "", e), fmt.Sprint(c.e == api.OK, c.e))
	}
}

// TestChange is about P40.3.
func TestChange(t *testing.T) {
	first, l := history()
	d, picks, _ := setting(t)
	extracts := []api.Extract{}
	for version := range 5 {
		s, _ := source.At(first, l, version)
		x, e := extract.Build(s, d, picks, secret)
		want(t, "build", e, api.OK)
		extracts = append(extracts, x)
	}
	changed := 0
	for from := range 5 {
		for to := range 5 {
			should, _ := refresh.Diff(extracts[from], extracts[to])
			got, e := corrections.Change(first, l, from, to, d, picks, secret)
			want(t, fmt.Sprint(from, to), fmt.Sprint(got, e), fmt.Sprint(should, api.OK))
			changed += len(refresh.Keys(got))
			if from <= to {
				between, _ := corrections.Between(l, from, to, secret)
				want(t, "only keys between", lineage.Within(refresh.Keys(got), between), true)
			}
		}
	}
	want(t, "some changed", changed > 10, true)
	empty := api.Source{Schema: example.Schema()}
	for i, c := range []struct {
		first    api.Source
		from, to int
		picks    []api.Pick
		secret   int
		e        api.Errno
	}{
		{first, -1, 5, nil, -1, api.ErrVersion}, {first, 5, -1, nil, -1, api.ErrGone}, {first, 4, -1, nil, -1, api.ErrVersion}, {first, 4, 5, nil, -1, api.ErrGone}, {first, 4, 4, nil, -1, api.ErrPlan}, {first, 4, 4, picks, -1, api.ErrRange},
		{empty, 1, 0, nil, -1, api.ErrPerson}, {api.Source{}, 0, 0, picks, 5, api.ErrVersion}, {first, 4, 0, picks, 5, api.OK},
	} {
		got, e := corrections.Change(c.first, l, c.from, c.to, d, c.picks, c.secret)
		want(t, fmt.Sprint(i), e, c.e)
		if e != api.OK {
			want(t, fmt.Sprint(i), got, api.Change{})
		}
	}
}
