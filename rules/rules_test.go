package rules_test

import (
	"fmt"
	"math"
	"math/rand"
	"testing"

	"dataenclave/api"
	"dataenclave/rules"
)

func want(t *testing.T, name string, got, want any) {
	t.Helper()
	if fmt.Sprintf("%+v", got) != fmt.Sprintf("%+v", want) {
		t.Errorf("%s: got %+v, want %+v", name, got, want)
	}
}

func of(least, percent, estimate, free int) api.Rules {
	return api.Rules{Least: least, Percent: percent, Estimate: estimate, Free: free}
}

// TestCheck is about P27.1.
func TestCheck(t *testing.T) {
	for _, r := range []api.Rules{of(1, 1, 0, 0), of(100, 100, 100, 100), of(3, 80, 10, 5)} {
		want(t, fmt.Sprint(r), rules.Check(r), api.OK)
	}
	for _, r := range []api.Rules{{}, of(0, 50, 0, 0), of(101, 50, 0, 0), of(3, 0, 0, 0), of(3, 101, 0, 0), of(3, 50, -1, 0), of(3, 50, 101, 0), of(3, 50, 0, -1), of(3, 50, 0, 101), of(math.MinInt, 50, 0, 0)} {
		want(t, fmt.Sprint(r), rules.Check(r), api.ErrRange)
		l, e := rules.Breaches(r, api.Value{})
		want(t, fmt.Sprint("breaches ", r), fmt.Sprint(l, e), fmt.Sprint([]api.Breach{}, api.ErrRange))
		p, e := rules.Protected(r, make([]int, 2001))
		want(t, fmt.Sprint("protected ", r), fmt.Sprint(p, e), fmt.Sprint([]int{}, api.ErrRange))
		want(t, "stricter", rules.Stricter(r, of(1, 100, 0, 0)) || rules.Stricter(of(100, 1, 100, 100), r) || rules.Stricter(r, r), false)
	}
}

func table(measure int, cells ...api.TableCell) api.Value {
	return api.Value{Kind: api.KindTable, Table: api.Table{Measure: measure, Cells: cells}}
}

// amounts is a cell of contributions.
func amounts(l ...int) api.TableCell {
	c := api.TableCell{Count: len(l)}
	for i, n := range l {
		c.Amount += n
		switch i {
		case 0:
			c.First = n
		case 1:
			c.Second = n
		}
	}
	return c
}

func count(n int) api.TableCell { return api.TableCell{Count: n} }

// TestBreaches is about P27.1: the breaches of each kind of value, with Least 3, Percent 80, Estimate 10 and Free 5.
func TestBreaches(t *testing.T) {
	r := of(3, 80, 10, 5)
	const c, d, e, f, s = api.BreachCount, api.BreachDominance, api.BreachEstimate, api.BreachFree, api.BreachStep
	for _, x := range []struct {
		name string
		v    api.Value
		l    []int // kinds and places, by turns
	}{
		{"a number of none", api.Value{Kind: api.KindNumber}, nil},
		{"a number of one", api.Value{Kind: api.KindNumber, Lineage: []int{9}}, []int{c, 0}},
		{"a number of two", api.Value{Kind: api.KindNumber, Lineage: []int{9, 10}}, []int{c, 0}},
		{"a number of three", api.Value{Kind: api.KindNumber, Lineage: []int{9, 10, 11}}, nil},
		{"a table of counts", table(-1, count(0), count(1), count(2), count(3), count(-1)), []int{c, 1, c, 2}},
		{"a table of counts has no amounts", table(-1, api.TableCell{Count: 5, First: 90, Amount: 100}), nil},
		{"the chapter's example", table(0, amounts(90, 5, 5)), []int{d, 0, e, 0}},
		{"just not dominant", table(4, amounts(80, 10, 10)), nil},
		{"just dominant", table(4, api.TableCell{Count: 3, Amount: 1000, First: 801, Second: 10}), []int{d, 0}},
		{"just not to be estimated", table(4, amounts(50, 45, 5)), nil},
		{"just to be estimated", table(4, amounts(51, 44, 5)), []int{e, 0}},
		{"no first one", table(4, api.TableCell{Count: 3}), nil},
		{"no first one, but a second one", table(4, api.TableCell{Count: 3, Second: 5}), nil},
		{"the least first one", table(4, api.TableCell{Count: 3, Amount: 2, First: 1, Second: 1}), []int{e, 0}},
		{"to be estimated by a small difference", table(4, amounts(101, 100, 10)), []int{e, 0}},
		{"a first one alone", table(4, amounts(7)), []int{c, 0, d, 0, e, 0}},
		{"two", table(4, amounts(5, 5, 5), amounts(7, 7)), []int{c, 1, e, 1}},
		{"a first one below 0", table(4, api.TableCell{Count: 3, Amount: 10, First: -1}), nil},
		{"a model", api.Value{Kind: api.KindModel, Model: api.Model{Count: 3, Free: 5}}, nil},
		{"a model of few", api.Value{Kind: api.KindModel, Model: api.Model{Count: 2, Free: 5}}, []int{c, 0}},
		{"a model of none", api.Value{Kind: api.KindModel, Model: api.Model{Count: 0, Free: 4}}, []int{c, 0, f, 0}},
		{"a model with few that are free", api.Value{Kind: api.KindModel, Model: api.Model{Count: 7, Free: 4}, Box: api.Box{Count: 1}}, []int{f, 0}},
		{"a curve", api.Value{Kind: api.KindCurve, Curve: []api.CurveStep{{AtRisk: 9, Events: 3}, {AtRisk: 6, Events: 1, Left: 1}, {AtRisk: 4, Left: 1}, {AtRisk: 3, Events: 2, Left: 1}, {AtRisk: 2}, {AtRisk: 0, Left: 2}}}, []int{s, 1, s, 2, c, 4, c, 5, s, 5}},
		{"a histogram", api.Value{Kind: api.KindHist, Hist: []api.Bin{{Low: 1, Count: 2}, {Low: 2, Count: 3}, {Low: 3}, {Low: 4, Count: 1}}}, []int{c, 0, c, 3}},
		{"a box", api.Value{Kind: api.KindBox, Box: api.Box{Count: 3}}, nil},
		{"a box of few", api.Value{Kind: api.KindBox, Box: api.Box{Count: 2}, Model: api.Model{Count: 9}}, []int{c, 0}},
		{"a box of none", api.Value{Kind: api.KindBox}, []int{c, 0}},
	} {
		var l []api.Breach
		for i := 0; i < len(x.l); i += 2 {
			l = append(l, api.Breach{Kind: x.l[i], At: x.l[i+1]})
		}
		got, err := rules.Breaches(r, x.v)
		want(t, x.name, fmt.Sprint(got, err), fmt.Sprint(l, api.OK))
	}
	got, err := rules.Breaches(of(1, 100, 0, 0), table(4, amounts(7), amounts(), amounts(5, 5)))
	want(t, "rules that nothing breaks", fmt.Sprint(got, err), "[] 0")
}

// TestBreachesErrors is about P27.1.
func TestBreachesErrors(t *testing.T) {
	const most = api.MaxInt
	r := of(3, 80, 10, 5)
	cells := func(n int, first api.TableCell) []api.TableCell { return append(make([]api.TableCell, n-1), first) }
	for i, c := range []struct {
		v api.Value
		e api.Errno
	}{
		{api.Value{}, api.ErrKind}, {api.Value{Kind: 7}, api.ErrKind}, {api.Value{Kind: -1}, api.ErrKind},
		{table(-1, cells(2000, count(9))...), api.OK}, {table(-1, cells(2001, count(most+1))...), api.ErrLimit},
		{api.Value{Kind: api.KindCurve, Curve: make([]api.CurveStep, 200)}, api.OK}, {api.Value{Kind: api.KindCurve, Curve: make([]api.CurveStep, 201)}, api.ErrLimit},
		{api.Value{Kind: api.KindHist, Hist: make([]api.Bin, 200)}, api.OK}, {api.Value{Kind: api.KindHist, Hist: make([]api.Bin, 201)}, api.ErrLimit},
		{api.Value{Kind: api.KindBox, Hist: make([]api.Bin, 201), Curve: make([]api.CurveStep, 201), Table: api.Table{Cells: cells(2001, count(0))}}, api.OK},
		{table(-1, count(most)), api.OK}, {table(-1, count(most+1)), api.ErrOverflow}, {table(-1, count(-most-1)), api.ErrOverflow}, {table(-1, count(-most)), api.OK},
		{table(-1, api.TableCell{Sum: most + 1, Amount: most + 1, First: most + 1, Second: most + 1}), api.OK},
		{table(0, api.TableCell{Sum: most + 1}), api.OK}, {table(0, api.TableCell{Amount: most + 1}), api.ErrOverflow}, {table(0, api.TableCell{First: -most - 1}), api.ErrOverflow}, {table(0, count(1), api.TableCell{First: 1, Second: math.MinInt}), api.ErrOverflow}, {table(0, api.TableCell{Amount: most, First: most, Second: most}), api.OK}, {table(0, api.TableCell{Amount: -most, First: most, Second: most}), api.OK},
		{api.Value{Kind: api.KindModel, Model: api.Model{Count: most + 1}}, api.ErrOverflow}, {api.Value{Kind: api.KindModel, Model: api.Model{Free: most + 1}}, api.ErrOverflow}, {api.Value{Kind: api.KindModel, Model: api.Model{Measure: most + 1}}, api.OK},
		{api.Value{Kind: api.KindCurve, Curve: []api.CurveStep{{AtRisk: most + 1}}}, api.ErrOverflow}, {api.Value{Kind: api.KindCurve, Curve: []api.CurveStep{{Events: math.MaxInt, Left: math.MaxInt}}}, api.ErrOverflow}, {api.Value{Kind: api.KindCurve, Curve: []api.CurveStep{{Left: most + 1}}}, api.ErrOverflow}, {api.Value{Kind: api.KindCurve, Curve: []api.CurveStep{{Time: most + 1}}}, api.OK},
		{api.Value{Kind: api.KindHist, Hist: []api.Bin{{Count: most + 1}}}, api.ErrOverflow}, {api.Value{Kind: api.KindHist, Hist: []api.Bin{{Low: most + 1}}}, api.OK},
		{api.Value{Kind: api.KindBox, Box: api.Box{Count: most + 1}}, api.ErrOverflow}, {api.Value{Kind: api.KindBox, Box: api.Box{Upper: most + 1}}, api.OK},
	} {
		l, e := rules.Breaches(r, c.v)
		want(t, fmt.Sprint(i), e, c.e)
		if e != api.OK {
			want(t, fmt.Sprint(i), l, []api.Breach{})
		}
	}
}

// TestProtected is about P27.2.
func TestProtected(t *testing.T) {
	l, e := rules.Protected(of(3, 1, 0, 0), []int{2, 0, 3, 1, -5, math.MaxInt, math.MinInt, 2})
	want(t, "protected", fmt.Sprint(l, e), fmt.Sprint([]int{0, 3, 7}, api.OK))
	l, e = rules.Protected(of(1, 1, 0, 0), []int{2, 0, 3, 1})
	want(t, "none", fmt.Sprint(l, e), "[] 0")
	l, e = rules.Protected(of(100, 1, 0, 0), []int{99, 100})
	want(t, "the greatest least count", fmt.Sprint(l, e), "[0] 0")
	l, e = rules.Protected(of(2, 1, 0, 0), append(make([]int, 1999), 1))
	want(t, "2000 counts", fmt.Sprint(l, e), "[1999] 0")
	l, e = rules.Protected(of(2, 1, 0, 0), append(make([]int, 2000), 1))
	want(t, "2001 counts", fmt.Sprint(l, e), fmt.Sprint([]int{}, api.ErrLimit))
}

// TestStricter is about P27.2.
func TestStricter(t *testing.T) {
	r := of(5, 50, 20, 7)
	want(t, "itself", rules.Stricter(r, r), true)
	for _, a := range []api.Rules{of(6, 50, 20, 7), of(5, 49, 20, 7), of(5, 50, 21, 7), of(5, 50, 20, 8), of(100, 1, 100, 100)} {
		want(t, fmt.Sprint(a), fmt.Sprint(rules.Stricter(a, r), rules.Stricter(r, a)), "true false")
	}
	want(t, "neither", rules.Stricter(of(6, 51, 20, 7), r) || rules.Stricter(r, of(6, 51, 20, 7)), false)
}

// TestStricterBreaks is about what follows: whatever breaks rules breaks stricter ones.
func TestStricterBreaks(t *testing.T) {
	r := rand.New(rand.NewSource(1))
	for range 3000 {
		a := of(1+r.Intn(6), 1+r.Intn(100), r.Intn(101), r.Intn(6))
		b := of(a.Least+r.Intn(3), max(1, a.Percent-r.Intn(9)), min(100, a.Estimate+r.Intn(9)), a.Free+r.Intn(3))
		want(t, "stricter", rules.Stricter(b, a), true)
		first, second := 1+r.Intn(50), r.Intn(30)
		v := table(3, api.TableCell{Count: r.Intn(8), First: first, Second: min(first, second), Amount: first + second + r.Intn(40)})
		if r.Intn(3) == 0 {
			v = api.Value{Kind: api.KindModel, Model: api.Model{Count: r.Intn(8), Free: r.Intn(8)}}
		}
		less, _ := rules.Breaches(a, v)
		more, _ := rules.Breaches(b, v)
		want(t, fmt.Sprint(a, b, v), len(less) <= len(more), true)
	}
}
