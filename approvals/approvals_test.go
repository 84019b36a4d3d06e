package approvals_test

import (
	"fmt"
	"math"
	"math/rand"
	"slices"
	"testing"

	"dataenclave/api"
	"dataenclave/approvals"
)

func want(t *testing.T, name string, got, want any) {
	t.Helper()
	if fmt.Sprint(got) != fmt.Sprint(want) {
		t.Errorf("%s: got %v, want %v", name, got, want)
	}
}

func of(project, researcher string, from, until int) api.Approval {
	return api.Approval{Project: project, Researcher: researcher, From: from, Until: until}
}

func some() []api.Approval {
	return []api.Approval{of("b", "bob", 2, 6), of("a", "ann", 5, 10), of("b", "cyd", 6, 20)}
}

func many(n int) []api.Approval {
	var l []api.Approval
	for i := range n {
		l = append(l, of("p", "ann", i, i+1))
	}
	return l
}

// wrong are approvals that are not valid, with their errors.
func wrong() map[api.Errno][][]api.Approval {
	return map[api.Errno][][]api.Approval{
		api.ErrLimit:     {append(many(60), of("", "", 9, 1))},
		api.ErrName:      {{of("", "ann", 5, 1)}, {of("p", "", 0, 1)}, {of("P", "ann", 0, 1)}, {of("p", "to", 0, 1)}, {of("p", "ann", 5, 6), of("to", "ann", 1, 1)}},
		api.ErrTime:      {{of("p", "ann", -1, 5)}, {of("p", "ann", 5, 5)}, {of("p", "ann", 5, 4)}, {of("p", "ann", 0, api.MaxTime+1)}, {of("p", "ann", 5, 9), of("p", "ann", 5, 1)}},
		api.ErrForm:      {{of("p", "ann", 5, 9), of("q", "ann", 4, 9)}, {of("q", "ann", 5, 9), of("p", "ann", 5, 9)}, {of("p", "ann", 5, 9), of("p", "bob", 5, 9)}},
		api.ErrDuplicate: {{of("p", "ann", 5, 9), of("p", "bob", 8, 12)}, {of("p", "ann", 5, 20), of("q", "ann", 6, 9), of("p", "ann", 7, 8), of("", "", 1, 1)}},
	}
}

// TestCheck is about P39.1.
func TestCheck(t *testing.T) {
	for i, l := range [][]api.Approval{nil, some(), many(60), {of("p", "ann", 0, api.MaxTime)}, {of("p", "ann", 5, 9), of("q", "ann", 5, 9), of("p", "ann", 9, 10)}} {
		want(t, fmt.Sprint(i), approvals.Check(l), api.OK)
	}
	for e, lists := range wrong() {
		for _, l := range lists {
			want(t, fmt.Sprint(l), approvals.Check(l), e)
			x, ok := approvals.Active(l, l[0].Project, l[0].From)
			want(t, "active", fmt.Sprint(x, ok), fmt.Sprint(api.Approval{}, false))
			same, also := approvals.Add(l, of("", "", 0, 0))
			want(t, "add", fmt.Sprint(same, also), fmt.Sprint(l, e))
			same, also = approvals.End(l, "", -1)
			want(t, "end", fmt.Sprint(same, also), fmt.Sprint(l, e))
			projects, also := approvals.Expired(l, 5, 1)
			want(t, "expired", fmt.Sprint(projects, also), fmt.Sprint([]string{}, e))
		}
	}
}

// TestActive is about P39.1, minute by minute.
func TestActive(t *testing.T) {
	for time := -1; time < 25; time++ {
		for _, project := range []string{"a", "b", "c", ""} {
			should, is := api.Approval{}, false
			for _, x := range some() {
				if x.Project == project && x.From <= time && time < x.Until {
					should, is = x, true
				}
			}
			x, ok := approvals.Active(some(), project, time)
			want(t, fmt.Sprint(project, " at ", time), fmt.Sprint(x, ok), fmt.Sprint(should, is))
		}
	}
	_, ok := approvals.Active(some(), "a", math.MinInt)
	want(t, "long ago", ok, false)
}

// TestAdd is about P39.2.
func TestAdd(t *testing.T) {
	l := slices.Grow(some(), 5)
	for _, c := range []struct {
		x     api.Approval
		place int
		e     api.Errno
	}{
		{of("", "ann", 5, 1), 0, api.ErrName}, {of("a", "", 5, 1), 0, api.ErrName}, {of("a", "ann", 6, 6), 0, api.ErrTime}, {of("a", "ann", -1, 5), 0, api.ErrTime}, {of("a", "ann", 5, api.MaxTime+1), 0, api.ErrTime},
		{of("a", "bob", 9, 11), 0, api.ErrDuplicate}, {of("a", "bob", 0, 6), 0, api.ErrDuplicate}, {of("b", "bob", 0, 99), 0, api.ErrDuplicate}, {of("b", "bob", 3, 4), 0, api.ErrDuplicate},
		{of("a", "bob", 10, 11), 3, api.OK}, {of("a", "bob", 0, 5), 0, api.OK}, {of("a", "bob", 2, 5), 0, api.OK}, {of("c", "bob", 2, 5), 1, api.OK}, {of("c", "ann", 5, 6), 2, api.OK}, {of("b", "bob", 0, 2), 0, api.OK}, {of("b", "bob", 20, api.MaxTime), 3, api.OK},
	} {
		got, e := approvals.Add(l, c.x)
		should := some()
		if c.e == api.OK {
			should = slices.Insert(should, c.place, c.x)
		}
		want(t, fmt.Sprint(c.x), fmt.Sprint(got, e), fmt.Sprint(should, c.e))
		want(t, "it stays", fmt.Sprint(l, l[:4][3]), fmt.Sprint(some(), api.Approval{}))
	}
	_, e := approvals.Add(many(60), of("p", "ann", 0, 5))
	want(t, "twice before full", e, api.ErrDuplicate)
	_, e = approvals.Add(many(60), of("q", "ann", 0, 5))
	want(t, "full", e, api.ErrLimit)
	_, e = approvals.Add(many(59), of("q", "ann", 0, 5))
	want(t, "just not full", e, api.OK)
	got, e := approvals.Add(nil, of("q", "ann", 0, 5))
	want(t, "the first one", fmt.Sprint(got, e), fmt.Sprint([]api.Approval{of("q", "ann", 0, 5)}, api.OK))
}

// TestEnd is about P39.2.
func TestEnd(t *testing.T) {
	one := []api.Approval{of("p", "ann", 5, 10)}
	got, e := approvals.End(one, "p", 7)
	want(t, "the chapter's example", fmt.Sprint(got, e), fmt.Sprint([]api.Approval{of("p", "ann", 5, 7)}, api.OK))
	for time := -1; time < 25; time++ {
		for _, project := range []string{"a", "b", "c"} {
			got, e := approvals.End(some(), project, time)
			x, ok := approvals.Active(some(), project, time)
			if !ok {
				want(t, fmt.Sprint(project, " at ", time), fmt.Sprint(got, e), fmt.Sprint(some(), api.ErrApproval))
				continue
			}
			should := some()
			at := slices.Index(should, x)
			should[at].Until = time
			if x.From == time {
				should = slices.Delete(should, at, at+1)
			}
			want(t, fmt.Sprint(project, " at ", time), fmt.Sprint(got, e), fmt.Sprint(should, api.OK))
			want(t, "valid", approvals.Check(got), api.OK)
			for other := -1; other < 25; other++ {
				_, before := approvals.Active(some(), project, other)
				_, behind := approvals.Active(got, project, other)
				want(t, "as it was, but for what it ended", behind, before && (other < time || other >= x.Until))
			}
		}
	}
	l := slices.Grow(some(), 2)
	approvals.End(l, "b", 2)
	approvals.End(l, "b", 3)
	want(t, "it stays", l, some())
}

// TestExpired is about P39.3, minute by minute.
func TestExpired(t *testing.T) {
	r := rand.New(rand.NewSource(1))
	some := 0
	for range 200 {
		var l []api.Approval
		for range 8 {
			from := r.Intn(30)
			l, _ = approvals.Add(l, of(string(rune('a'+r.Intn(4))), "ann", from, from+1+r.Intn(9)))
		}
		want(t, "valid", approvals.Check(l), api.OK)
		from := r.Intn(38)
		until := from + 1 + r.Intn(5)
		var should []string
		for _, p := range []string{"a", "b", "c", "d"} {
			_, before := approvals.Active(l, p, from)
			_, behind := approvals.Active(l, p, until)
			if before && !behind {
				should = append(should, p)
			}
		}
		some += len(should)
		got, e := approvals.Expired(l, from, until)
		want(t, fmt.Sprint(l, from, until), fmt.Sprint(got, e), fmt.Sprint(should, api.OK))
	}
	want(t, "some do", some > 50, true)
	for _, c := range [][2]int{{-1, 5}, {5, 5}, {6, 5}, {0, api.MaxTime + 1}, {math.MinInt, math.MaxInt}} {
		got, e := approvals.Expired(nil, c[0], c[1])
		want(t, fmt.Sprint(c), fmt.Sprint(got, e), fmt.Sprint([]string{}, api.ErrTime))
	}
	got, e := approvals.Expired([]api.Approval{of("p", "ann", 0, api.MaxTime)}, 0, api.MaxTime)
	want(t, "at the end of time", fmt.Sprint(got, e), "[p] 0")
}
