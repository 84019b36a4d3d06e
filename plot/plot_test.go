package plot_test

import (
	"fmt"
	"math/rand"
	"slices"
	"sort"
	"testing"

	"dataenclave/api"
	"dataenclave/example"
	"dataenclave/plot"
	"dataenclave/schema"
)

func want(t *testing.T, name string, got, want any) {
	t.Helper()
	if fmt.Sprintf("%+v", got) != fmt.Sprintf("%+v", want) {
		t.Errorf("%s: got %+v, want %+v", name, got, want)
	}
}

const most = api.MaxMeasure

// TestBins is about P21.1.
func TestBins(t *testing.T) {
	l, e := plot.Bins([]int{1, 4, 5, -1}, 5)
	want(t, "the chapter's example", fmt.Sprint(l, e), "[{-5 1} {0 2} {5 1}] 0")
	r := rand.New(rand.NewSource(1))
	for range 200 {
		width := 1 + r.Intn(7)
		var values []int
		for range r.Intn(20) {
			values = append(values, r.Intn(60)-30)
		}
		before := slices.Clone(values)
		var bins []api.Bin
		for low := -42; low < 42; low++ {
			count := 0
			for _, v := range values {
				if low%width == 0 && low <= v && v < low+width {
					count++
				}
			}
			if count > 0 {
				bins = append(bins, api.Bin{Low: low, Count: count})
			}
		}
		l, e := plot.Bins(values, width)
		want(t, fmt.Sprint(values, width), fmt.Sprint(l, e), fmt.Sprint(bins, api.OK))
		want(t, "they stay", values, before)
	}
	for _, c := range []struct {
		name   string
		values []int
		width  int
		e      api.Errno
	}{
		{"200 values", make([]int, 200), 1, api.OK},
		{"the limit before the range", make([]int, 201), 0, api.ErrLimit},
		{"no values", nil, 1, api.OK},
		{"the width 0", nil, 0, api.ErrRange}, {"a width below 0", nil, -1, api.ErrRange}, {"the greatest width", []int{most, -most}, most, api.OK}, {"a greater width", nil, most + 1, api.ErrRange},
		{"too great a value", []int{0, most + 1}, 1, api.ErrRange}, {"too small a value", []int{-most - 1}, 1, api.ErrRange},
	} {
		l, e := plot.Bins(c.values, c.width)
		want(t, c.name, e, c.e)
		want(t, c.name, len(l) == 0, e != api.OK || len(c.values) == 0)
	}
}

// TestQuartiles is about P21.2.
func TestQuartiles(t *testing.T) {
	r := rand.New(rand.NewSource(2))
	for n := 1; n <= 30; n++ {
		var values []int
		for range n {
			values = append(values, r.Intn(100)-50)
		}
		before := slices.Clone(values)
		l := slices.Clone(values)
		sort.Ints(l)
		box, e := plot.Quartiles(values)
		want(t, fmt.Sprint(values), fmt.Sprint(box, e), fmt.Sprint(api.Box{Count: n, Least: l[0], Lower: l[(n-1)/4], Middle: l[(n-1)/2], Upper: l[3*(n-1)/4], Greatest: l[n-1]}, api.OK))
		want(t, "they stay", values, before)
	}
	for _, c := range []struct {
		name   string
		values []int
		e      api.Errno
	}{
		{"nothing", nil, api.ErrEmpty}, {"200 values", make([]int, 200), api.OK}, {"the limit before the range", append(make([]int, 200), most+1), api.ErrLimit},
		{"too great a value", []int{0, most + 1}, api.ErrRange}, {"too small a value", []int{-most - 1}, api.ErrRange}, {"the greatest values", []int{-most, most}, api.OK},
	} {
		box, e := plot.Quartiles(c.values)
		want(t, c.name, e, c.e)
		want(t, c.name, box == api.Box{}, e != api.OK)
	}
}

func all() api.Cond { return api.Cond{Op: api.CondAll} }

func between(column, low, high int) api.Cond {
	return api.Cond{Op: api.CondBetween, Column: column, Low: low, High: high}
}

// TestHist is about P21.3.
func TestHist(t *testing.T) {
	s := example.Schema()
	cond := between(3, 20, 99)
	var values, keys []int
	for _, row := range example.Rows() {
		if row[3] >= 20 && row[4] != api.Missing {
			values, keys = append(values, row[4]), append(keys, row[0])
		}
	}
	for _, width := range []int{1, 100} {
		bins, _ := plot.Bins(values, width)
		l, of, e := plot.Hist(s, example.Extract(), 4, width, cond)
		want(t, fmt.Sprint("hist ", width), fmt.Sprint(l, of, e), fmt.Sprint(bins, keys, api.OK))
	}
	x := api.Extract{Project: "p", Picks: example.Picks(4, 1)}
	for _, row := range example.Rows() {
		x.Rows = append(x.Rows, []int{row[0], schema.Coarse(s, 4, 1, row[4])})
	}
	l, of, e := plot.Hist(s, x, 4, 100, all())
	fine, _, _ := plot.Hist(s, example.Extract(), 4, 100, all())
	want(t, "over coarse values", fmt.Sprint(l, len(of), e), fmt.Sprint(fine, 8, api.OK))
	s.Columns[3] = api.Column{Name: "age", Kind: api.ColumnMeasure, Low: -most, High: most, Widths: []int{1, 7}}
	low := api.Extract{Project: "p", Picks: example.Picks(3, 2), Rows: [][]int{{1, -most}}}
	_, _, e = plot.Hist(s, low, 3, 7, all())
	want(t, "a bin that begins below the least measure", e, api.ErrRange)
}

// TestBox is about P21.3.
func TestBox(t *testing.T) {
	s := example.Schema()
	var values, keys []int
	for _, row := range example.Rows() {
		if row[3] >= 20 && row[4] != api.Missing {
			values, keys = append(values, row[4]), append(keys, row[0])
		}
	}
	should, _ := plot.Quartiles(values)
	box, of, e := plot.Box(s, example.Extract(), 4, between(3, 20, 99))
	want(t, "box", fmt.Sprint(box, of, e), fmt.Sprint(should, keys, api.OK))
	box, of, e = plot.Box(s, example.Extract(), 4, api.Cond{Op: api.CondMissing, Column: 4})
	want(t, "no values", fmt.Sprint(box, of, e), fmt.Sprint(api.Box{}, []int{}, api.ErrEmpty))
}

// TestErrors is about P21.3: errors, of which the first one counts.
func TestErrors(t *testing.T) {
	s := example.Schema()
	short := example.Extract()
	short.Picks, short.Rows = example.Picks(3, 2), nil
	for _, c := range []struct {
		name          string
		x             api.Extract
		column, width int
		cond          api.Cond
		hist, box     api.Errno
	}{
		{"the extract first", api.Extract{}, 1, 1, all(), api.ErrName, api.ErrName},
		{"no measure", short, 1, 1, all(), api.ErrForm, api.ErrForm},
		{"no column", short, -1, 1, all(), api.ErrForm, api.ErrForm},
		{"a wrong condition", short, 3, 5, api.Cond{}, api.ErrForm, api.ErrForm},
		{"no such width", short, 3, 10, all(), api.ErrForm, api.ErrPlan},
		{"a width that is too fine", short, 3, 1, all(), api.ErrPlan, api.ErrPlan},
		{"a width that is known", short, 3, 5, all(), api.OK, api.ErrPlan},
		{"a coarser one", short, 3, 20, all(), api.OK, api.ErrPlan},
		{"a condition that is not known", short, 3, 20, between(3, 3, 4), api.ErrPlan, api.ErrPlan},
	} {
		l, keys, e := plot.Hist(s, c.x, c.column, c.width, c.cond)
		want(t, c.name, fmt.Sprint(l, keys, e), fmt.Sprint([]int{}, []int{}, c.hist))
		box, keys, e := plot.Box(s, c.x, c.column, c.cond)
		want(t, c.name, fmt.Sprint(box, keys, e), fmt.Sprint(api.Box{}, []int{}, c.box))
	}
	s.Columns[1].Name = "person"
	_, _, e := plot.Hist(s, example.Extract(), 4, 1, all())
	want(t, "a wrong schema", e, api.ErrDuplicate)
	_, _, e = plot.Box(s, example.Extract(), 4, all())
	want(t, "a wrong schema", e, api.ErrDuplicate)
}
