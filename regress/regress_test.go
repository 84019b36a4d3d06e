package regress_test

import (
	"fmt"
	"math/big"
	"math/rand"
	"testing"

	"dataenclave/api"
	"dataenclave/example"
	"dataenclave/extract"
	"dataenclave/regress"
)

func want(t *testing.T, name string, got, want any) {
	t.Helper()
	if fmt.Sprintf("%+v", got) != fmt.Sprintf("%+v", want) {
		t.Errorf("%s: got %+v, want %+v", name, got, want)
	}
}

func many(n int, row ...int) [][]int {
	var l [][]int
	for range n {
		l = append(l, row)
	}
	return l
}

// TestGram is about P19.1.
func TestGram(t *testing.T) {
	const most = api.MaxMeasure
	want(t, "gram", regress.Gram([][]int{{1, 2, -3}, {0, 5, 7}}), [][]int{{1, 2, -3}, {2, 29, 29}, {-3, 29, 58}})
	want(t, "one number", regress.Gram([][]int{{3}, {-4}}), [][]int{{25}})
	want(t, "the greatest sums", regress.Gram(many(200, most, -most)), [][]int{{200 * most * most, -200 * most * most}, {-200 * most * most, 200 * most * most}})
	want(t, "five numbers", len(regress.Gram(many(1, 1, 2, 3, 4, 5))), 5)
	for i, rows := range [][][]int{nil, {{}}, {{}, {}}, many(201, 1), many(1, 1, 2, 3, 4, 5, 6), {{1, 2}, {1}}, {{1}, {1, 2}}, {{1}, {most + 1}}, {{-most - 1}}, {{1}, nil}} {
		want(t, fmt.Sprint("nothing ", i), regress.Gram(rows), [][]int{})
	}
}

func rat(f api.Frac) *big.Rat { return big.NewRat(int64(f.Num), int64(f.Den)) }

func sum(l []*big.Rat, by func(i int) int64) *big.Rat {
	s := new(big.Rat)
	for i, x := range l {
		s.Add(s, new(big.Rat).Mul(x, big.NewRat(by(i), 1)))
	}
	return s
}

// proves checks a model by what characterizes it: what is left is orthogonal to 1 and to each term.
func proves(t *testing.T, rows [][]int, m api.Model) {
	t.Helper()
	n := int64(len(rows))
	var left, apart []*big.Rat
	mean := new(big.Rat)
	for _, row := range rows {
		mean.Add(mean, big.NewRat(int64(row[0]), n))
	}
	for _, row := range rows {
		x := big.NewRat(int64(row[0]), 1)
		for i, c := range m.Coefs {
			factor := int64(1)
			if i > 0 {
				factor = int64(row[i])
			}
			x.Sub(x, new(big.Rat).Mul(rat(c), big.NewRat(factor, 1)))
		}
		left = append(left, x)
		apart = append(apart, new(big.Rat).Sub(big.NewRat(int64(row[0]), 1), mean))
	}
	want(t, "the sum of what is left", sum(left, func(int) int64 { return 1 }).RatString(), "0")
	for k := 1; k < len(rows[0]); k++ {
		want(t, "times a term", sum(left, func(i int) int64 { return int64(rows[i][k]) }).RatString(), "0")
	}
	squares := func(l []*big.Rat) string {
		s := new(big.Rat)
		for _, x := range l {
			s.Add(s, new(big.Rat).Mul(x, x))
		}
		return s.RatString()
	}
	want(t, "residual", rat(m.Residual).RatString(), squares(left))
	want(t, "total", rat(m.Total).RatString(), squares(apart))
	want(t, "numbers", fmt.Sprint(m.Count, m.Free, m.Measure, m.Terms), fmt.Sprint(len(rows), len(rows)-len(rows[0]), 0, []int{}))
}

// TestFit is about P19.2: models are proved to be the least ones.
func TestFit(t *testing.T) {
	r := rand.New(rand.NewSource(5))
	fitted := 0
	for range 300 {
		terms, most := 1+r.Intn(3), 1+r.Intn(60)
		var rows [][]int
		for range 2 + r.Intn(9) {
			row := []int{}
			for range terms + 1 {
				row = append(row, r.Intn(2*most+1)-most)
			}
			rows = append(rows, row)
		}
		m, e := regress.Fit(rows)
		if e == api.OK {
			fitted++
			proves(t, rows, m)
		} else {
			want(t, fmt.Sprint(rows, m), e, api.ErrSingular)
		}
	}
	want(t, "most of them", fitted > 200, true)
	m, e := regress.Fit([][]int{{1, 0}, {3, 1}, {5, 2}})
	want(t, "the chapter's example", fmt.Sprintf("%+v %d", m, e), fmt.Sprintf("%+v %d", api.Model{Coefs: []api.Frac{{Num: 1, Den: 1}, {Num: 2, Den: 1}}, Residual: api.Frac{Num: 0, Den: 1}, Total: api.Frac{Num: 8, Den: 1}, Count: 3, Free: 1}, api.OK))
	m, e = regress.Fit([][]int{{0, 0}, {0, 1}, {7, 0}, {7, 1}})
	want(t, "what is left", fmt.Sprint(m, e), fmt.Sprint(api.Model{Coefs: []api.Frac{{Num: 7, Den: 2}, {Num: 0, Den: 1}}, Residual: api.Frac{Num: 49, Den: 1}, Total: api.Frac{Num: 49, Den: 1}, Count: 4, Free: 2}, api.OK))
	m, e = regress.Fit([][]int{{5, 1}, {6, 3}})
	want(t, "nothing is free", fmt.Sprint(m.Free, m.Count, e), "0 2 0")
	proves(t, [][]int{{5, 1}, {6, 3}}, m)
}

// TestFitErrors is about P19.2.
func TestFitErrors(t *testing.T) {
	for _, c := range []struct {
		name string
		rows [][]int
		e    api.Errno
	}{
		{"no rows", nil, api.ErrForm},
		{"no terms", [][]int{{1}, {2}}, api.ErrForm},
		{"four terms", many(2, 1, 2, 3, 4, 5), api.ErrForm},
		{"three terms", [][]int{{1, 0, 0, 0}, {2, 1, 0, 0}, {3, 0, 1, 0}, {4, 0, 0, 1}}, api.OK},
		{"rows of different lengths", [][]int{{1, 2}, {1, 2, 3}}, api.ErrForm},
		{"too large a number", [][]int{{1, 2}, {1, api.MaxMeasure + 1}}, api.ErrForm},
		{"too many rows", many(201, 1, 2), api.ErrForm},
		{"terms that are constant", many(5, 1, 2), api.ErrSingular},
		{"one row", [][]int{{3, 4}}, api.ErrSingular},
		{"terms that depend on each other", [][]int{{1, 2, 4}, {2, 3, 6}, {9, 5, 10}, {1, 1, 2}}, api.ErrSingular},
		{"sums of the terms out of range", [][]int{{1, 0}, {2, 50000}}, api.ErrRange},
		{"sums with the left side out of range", [][]int{{api.MaxMeasure, 4000}, {2, 2}}, api.ErrRange},
		{"squares of the left side out of range", [][]int{{50000, 1}, {2, 2}}, api.ErrRange},
		{"just in range", [][]int{{46340, 1}, {0, 2}}, api.OK},
		{"singular before the squares of the left side", [][]int{{50000, 1}, {2, 1}}, api.ErrSingular},
		{"the size with the left side", [][]int{{24000, 12000, 0, 12000}, {0, -12000, 0, 12000}, {0, 0, 12000, -12000}, {-24000, 0, -12000, -12000}, {0, 0, 0, 0}}, api.ErrOverflow},
		{"not so large a size", [][]int{{2400, 1200, 0, 1200}, {0, -1200, 0, 1200}, {0, 0, 1200, -1200}, {-2400, 0, -1200, -1200}, {0, 0, 0, 0}}, api.OK},
		{"too large a fraction", [][]int{{1, 15013, 7}, {0, -10009, 14503}, {3, 14983, -9497}, {20011, 5003, 10501}}, api.ErrOverflow},
	} {
		m, e := regress.Fit(c.rows)
		want(t, c.name, e, c.e)
		if e != api.OK {
			want(t, c.name, m, api.Model{})
		}
	}
}

func all() api.Cond { return api.Cond{Op: api.CondAll} }

// TestMake is about P19.3.
func TestMake(t *testing.T) {
	s := example.Schema()
	cond := api.Cond{Op: api.CondBetween, Column: 3, Low: 0, High: 59}
	m, keys, e := regress.Make(s, example.Extract(), 4, []int{5, 3}, cond)
	var rows [][]int
	var of []int
	for _, row := range example.Rows() {
		if row[3] <= 59 && row[4] != api.Missing {
			rows = append(rows, []int{row[4], row[5], row[3]})
			of = append(of, row[0])
		}
	}
	fit, _ := regress.Fit(rows)
	fit.Measure, fit.Terms = 4, []int{5, 3}
	want(t, "model", fmt.Sprintf("%+v %v %d", m, keys, e), fmt.Sprintf("%+v %v %d", fit, of, api.OK))
	want(t, "it has rows", len(of) > 4, true)
	_, keys, e = regress.Make(s, example.Extract(), 5, []int{4}, all())
	want(t, "missing terms do not count", fmt.Sprint(len(keys), e), "8 0")
}

// TestMakeErrors is about P19.3.
func TestMakeErrors(t *testing.T) {
	s := example.Schema()
	few := extract.Narrow(example.Extract(), []int{1})
	short := example.Extract()
	short.Picks, short.Rows = example.Picks(3, 2, 4, 2, 5, 2), nil
	for _, c := range []struct {
		name    string
		x       api.Extract
		column  int
		columns []int
		cond    api.Cond
		e       api.Errno
	}{
		{"the extract first", api.Extract{}, 0, nil, all(), api.ErrName},
		{"no measure", example.Extract(), 1, []int{3}, all(), api.ErrForm},
		{"no terms", example.Extract(), 4, nil, all(), api.ErrForm},
		{"a term that is the measure", example.Extract(), 4, []int{4}, all(), api.ErrForm},
		{"a wrong condition", short, 4, []int{3}, api.Cond{}, api.ErrForm},
		{"a plan that does not suffice", short, 4, []int{3}, all(), api.ErrPlan},
		{"no rows", short, 4, []int{5}, all(), api.ErrForm},
		{"singular", few, 4, []int{3}, all(), api.ErrSingular},
	} {
		m, keys, e := regress.Make(s, c.x, c.column, c.columns, c.cond)
		want(t, c.name, fmt.Sprint(m, keys, e), fmt.Sprint(api.Model{}, []int{}, c.e))
	}
	s.Columns[1].Name = "person"
	_, _, e := regress.Make(s, example.Extract(), 4, []int{3}, all())
	want(t, "a wrong schema", e, api.ErrDuplicate)
}
