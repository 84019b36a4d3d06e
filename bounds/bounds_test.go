package bounds_test

import (
	"fmt"
	"math"
	"math/big"
	"math/rand"
	"slices"
	"testing"

	"dataenclave/api"
	"dataenclave/bounds"
)

func want(t *testing.T, name string, got, want any) {
	t.Helper()
	if fmt.Sprintf("%+v", got) != fmt.Sprintf("%+v", want) {
		t.Errorf("%s: got %+v, want %+v", name, got, want)
	}
}

func eq(value int, cells ...int) api.Equation { return api.Equation{Cells: cells, Value: value} }

func frac(num, den int) api.Frac { return api.Frac{Num: num, Den: den} }

func rat(f api.Frac) *big.Rat { return big.NewRat(int64(f.Num), int64(f.Den)) }

// corner solves the equations for some cells, where all others are 0, and reports whether there is just one solution, and none of it is negative.
func corner(cells int, l []api.Equation, set int) ([]*big.Rat, bool) {
	var columns []int
	for i := range cells {
		if set>>i&1 == 1 {
			columns = append(columns, i)
		}
	}
	var rows [][]*big.Rat
	for _, x := range l {
		row := make([]*big.Rat, len(columns)+1)
		for k, c := range columns {
			row[k] = new(big.Rat)
			if slices.Contains(x.Cells, c) {
				row[k].SetInt64(1)
			}
		}
		row[len(columns)] = big.NewRat(int64(x.Value), 1)
		rows = append(rows, row)
	}
	for k := range columns {
		p := slices.IndexFunc(rows[min(k, len(rows)):], func(r []*big.Rat) bool { return r[k].Sign() != 0 })
		if p < 0 {
			return nil, false
		}
		rows[k], rows[k+p] = rows[k+p], rows[k]
		for i, r := range rows {
			if i == k {
				continue
			}
			f := new(big.Rat).Quo(r[k], rows[k][k])
			for j := range r {
				r[j] = new(big.Rat).Sub(r[j], new(big.Rat).Mul(f, rows[k][j]))
			}
		}
	}
	point := make([]*big.Rat, cells)
	for i := range point {
		point[i] = new(big.Rat)
	}
	for i, r := range rows {
		if i >= len(columns) && r[len(columns)].Sign() != 0 {
			return nil, false
		}
		if i < len(columns) {
			point[columns[i]] = new(big.Rat).Quo(r[len(columns)], r[i])
			if point[columns[i]].Sign() < 0 {
				return nil, false
			}
		}
	}
	return point, true
}

// reached finds the bounds by trying all corners.
func reached(cells int, l []api.Equation) (string, bool) {
	low, high := make([]*big.Rat, cells), make([]*big.Rat, cells)
	possible := false
	for set := range 1 << cells {
		point, ok := corner(cells, l, set)
		if !ok {
			continue
		}
		possible = true
		for i, x := range point {
			if low[i] == nil || x.Cmp(low[i]) < 0 {
				low[i] = x
			}
			if high[i] == nil || x.Cmp(high[i]) > 0 {
				high[i] = x
			}
		}
	}
	if !possible {
		return "", false
	}
	var all []string
	for i := range cells {
		if slices.ContainsFunc(l, func(x api.Equation) bool { return slices.Contains(x.Cells, i) }) {
			all = append(all, fmt.Sprintf("{Low:{Num:%v Den:%v} High:{Num:%v Den:%v} Open:false}", low[i].Num(), low[i].Denom(), high[i].Num(), high[i].Denom()))
		} else {
			all = append(all, "{Low:{Num:0 Den:1} High:{Num:0 Den:1} Open:true}")
		}
	}
	return fmt.Sprint(all), true
}

// random makes equations, most of which some point satisfies.
func random(r *rand.Rand, cells, n int) []api.Equation {
	point := make([]int, cells)
	for i := range point {
		point[i] = r.Intn(4)
	}
	var l []api.Equation
	for range n {
		var x api.Equation
		for i := range cells {
			if r.Intn(2) == 0 {
				x.Cells = append(x.Cells, i)
				x.Value += point[i]
			}
		}
		if r.Intn(9) == 0 {
			x.Value += r.Intn(3)
		}
		if len(x.Cells) > 0 {
			l = append(l, x)
		}
	}
	return l
}

// proves checks a proof in an independent way.
func proves(cells int, l []api.Equation, p api.Proof) bool {
	point, weights := make([]*big.Rat, cells), make([]*big.Rat, len(l))
	for i, f := range p.Point {
		point[i] = rat(f)
		if point[i].Sign() < 0 {
			return false
		}
	}
	bound := new(big.Rat)
	for i, x := range l {
		weights[i] = rat(p.Weights[i])
		sum := big.NewRat(int64(-x.Value), 1)
		for _, c := range x.Cells {
			sum.Add(sum, point[c])
		}
		if sum.Sign() != 0 {
			return false
		}
		bound.Add(bound, new(big.Rat).Mul(weights[i], big.NewRat(int64(x.Value), 1)))
	}
	for c := range cells {
		sum := new(big.Rat)
		if c == p.Cell {
			sum.SetInt64(-1)
		}
		for i, x := range l {
			if slices.Contains(x.Cells, c) {
				sum.Add(sum, weights[i])
			}
		}
		if p.Upper && sum.Sign() < 0 || !p.Upper && sum.Sign() > 0 {
			return false
		}
	}
	return bound.Cmp(rat(p.Bound)) == 0 && point[p.Cell].Cmp(bound) == 0
}

// TestBounds is about P30.1 and P30.2: bounds are those of all corners, and proved.
func TestBounds(t *testing.T) {
	r := rand.New(rand.NewSource(1))
	for range 400 {
		cells := 1 + r.Intn(5)
		l := random(r, cells, r.Intn(6))
		should, can := reached(cells, l)
		name := fmt.Sprint(cells, l)
		possible, e := bounds.Possible(cells, l)
		want(t, "possible "+name, fmt.Sprint(possible, e), fmt.Sprint(can, api.OK))
		got, e := bounds.Bounds(cells, l)
		if !can {
			want(t, "conflict "+name, fmt.Sprint(got, e), fmt.Sprint([]api.Interval{}, api.ErrConflict))
			p, e := bounds.Prove(cells, l, 0, true)
			want(t, "no proof "+name, fmt.Sprint(p, e), fmt.Sprint(api.Proof{}, api.ErrConflict))
			continue
		}
		want(t, "bounds "+name, fmt.Sprintf("%+v %d", got, e), fmt.Sprint(should, " ", api.OK))
		for cell := range cells {
			checkProofs(t, cells, l, cell, got[cell])
		}
	}
}

func checkProofs(t *testing.T, cells int, l []api.Equation, cell int, x api.Interval) {
	t.Helper()
	name := fmt.Sprint(cells, l, cell)
	p, e := bounds.Prove(cells, l, cell, false)
	want(t, "lower "+name, fmt.Sprint(p.Bound, p.Cell, p.Upper, e), fmt.Sprint(x.Low, cell, false, api.OK))
	want(t, "proof "+name, fmt.Sprint(proves(cells, l, p), bounds.Check(cells, l, p)), "true true")
	p, e = bounds.Prove(cells, l, cell, true)
	if x.Open {
		want(t, "open "+name, fmt.Sprint(p, e), fmt.Sprint(api.Proof{}, api.ErrNone))
		return
	}
	want(t, "upper "+name, fmt.Sprint(p.Bound, p.Cell, p.Upper, e), fmt.Sprint(x.High, cell, true, api.OK))
	want(t, "proof "+name, fmt.Sprint(proves(cells, l, p), bounds.Check(cells, l, p)), "true true")
}

// TestLarge is about P30.1 and P30.2: as many cells and equations as there can be, with great values.
func TestLarge(t *testing.T) {
	r := rand.New(rand.NewSource(2))
	for range 150 {
		l := random(r, 10, 10)
		for i := range l {
			l[i].Value = min(1000, l[i].Value*60)
		}
		got, e := bounds.Bounds(10, l)
		possible, _ := bounds.Possible(10, l)
		want(t, "possible", possible, e == api.OK)
		if e != api.OK {
			want(t, "conflict", e, api.ErrConflict)
			continue
		}
		for cell := range 10 {
			checkProofs(t, 10, l, cell, got[cell])
		}
	}
}

// TestNamed is about P30.1 and P30.2: the example of the chapter.
func TestNamed(t *testing.T) {
	l := []api.Equation{eq(3, 0, 1), eq(1, 1, 2)}
	got, e := bounds.Bounds(3, l)
	want(t, "bounds", fmt.Sprint(got, e), fmt.Sprint([]api.Interval{{Low: frac(2, 1), High: frac(3, 1)}, {Low: frac(0, 1), High: frac(1, 1)}, {Low: frac(0, 1), High: frac(1, 1)}}, api.OK))
	p := api.Proof{Cell: 0, Upper: true, Bound: frac(3, 1), Point: []api.Frac{frac(3, 1), frac(0, 1), frac(1, 1)}, Weights: []api.Frac{frac(1, 1), frac(0, 1)}}
	want(t, "its proof", bounds.Check(3, l, p), true)
	half := []api.Equation{eq(1, 0, 1), eq(1, 1, 2), eq(1, 0, 2)}
	got, e = bounds.Bounds(3, half)
	h := api.Interval{Low: frac(1, 2), High: frac(1, 2)}
	want(t, "fractions", fmt.Sprint(got, e), fmt.Sprint([]api.Interval{h, h, h}, api.OK))
	got, e = bounds.Bounds(2, nil)
	open := api.Interval{Low: frac(0, 1), High: frac(0, 1), Open: true}
	want(t, "without equations", fmt.Sprint(got, e), fmt.Sprint([]api.Interval{open, open}, api.OK))
}

// TestErrors is about P30.1 and P30.2: errors, of which the first one counts.
func TestErrors(t *testing.T) {
	many := make([]api.Equation, 11)
	for i := range many {
		many[i] = eq(1001, 0)
	}
	for i, c := range []struct {
		cells int
		l     []api.Equation
		cell  int
		e     api.Errno
	}{
		{0, nil, 0, api.ErrSpace}, {-1, nil, 0, api.ErrSpace}, {11, nil, 0, api.ErrSpace}, {48, nil, 0, api.ErrSpace}, {10, nil, 0, api.OK}, {math.MaxInt, many, 0, api.ErrSpace},
		{2, append(slices.Clone(many), eq(1, 2)), -1, api.ErrSpace}, {2, many, -1, api.ErrLimit}, {2, many[:10], -1, api.ErrRange}, {2, []api.Equation{eq(1000, 0)}, 0, api.OK}, {2, []api.Equation{eq(1001, 0)}, 0, api.ErrRange},
		{2, []api.Equation{eq(1, 0), eq(2, 0)}, 0, api.ErrConflict}, {2, []api.Equation{eq(1, 0, 1), eq(2, 0)}, 1, api.ErrConflict},
	} {
		possible, e := bounds.Possible(c.cells, c.l)
		should := c.e
		if c.e == api.ErrConflict {
			should = api.OK
		}
		want(t, fmt.Sprint("possible ", i), fmt.Sprint(possible, e), fmt.Sprint(c.e == api.OK, should))
		l, e := bounds.Bounds(c.cells, c.l)
		want(t, fmt.Sprint("bounds ", i), fmt.Sprint(len(l) > 0, e), fmt.Sprint(c.e == api.OK, c.e))
		p, e := bounds.Prove(c.cells, c.l, c.cell, false)
		want(t, fmt.Sprint("prove ", i), fmt.Sprint(len(p.Point) > 0, e), fmt.Sprint(c.e == api.OK, c.e))
	}
	conflict := []api.Equation{eq(1, 0), eq(2, 0)}
	for _, c := range []struct {
		cell  int
		upper bool
		l     []api.Equation
		e     api.Errno
	}{
		{-1, true, conflict, api.ErrRange}, {3, false, conflict, api.ErrRange}, {math.MaxInt, true, conflict, api.ErrRange}, {1, true, conflict, api.ErrConflict}, {1, true, conflict[:1], api.ErrNone}, {1, false, conflict[:1], api.OK}, {0, true, conflict[:1], api.OK},
	} {
		p, e := bounds.Prove(3, c.l, c.cell, c.upper)
		want(t, fmt.Sprint(c.cell, c.upper), e, c.e)
		if e != api.OK {
			want(t, "nothing", p, api.Proof{})
		}
	}
}

// TestCheck is about P30.3: what is wrong with proofs.
func TestCheck(t *testing.T) {
	l := []api.Equation{eq(3, 0, 1), eq(1, 1, 2)}
	type p = api.Proof
	upper := func() p {
		return p{Cell: 0, Upper: true, Bound: frac(3, 1), Point: []api.Frac{frac(3, 1), frac(0, 1), frac(1, 1)}, Weights: []api.Frac{frac(1, 1), frac(0, 1)}}
	}
	lower := func() p {
		return p{Cell: 0, Bound: frac(2, 1), Point: []api.Frac{frac(2, 1), frac(1, 1), frac(0, 1)}, Weights: []api.Frac{frac(1, 1), frac(-1, 1)}}
	}
	for i, c := range []struct {
		cells  int
		l      []api.Equation
		p      p
		change func(p *p)
		is     bool
	}{
		{3, l, upper(), func(p *p) {}, true}, {3, l, lower(), func(p *p) {}, true},
		{2, l, upper(), func(p *p) {}, false}, {4, l, upper(), func(p *p) {}, false}, {0, nil, p{}, func(p *p) {}, false}, {11, nil, p{Bound: frac(0, 1), Point: zeros(11)}, func(p *p) {}, false}, {10, nil, p{Bound: frac(0, 1), Point: zeros(10)}, func(p *p) {}, true}, {math.MinInt, nil, p{}, func(p *p) {}, false},
		{2, nil, p{Bound: frac(0, 1), Point: zeros(2)}, func(p *p) {}, true}, {2, nil, p{Bound: frac(0, 1), Point: zeros(2)}, func(p *p) { p.Point[1] = frac(-1, 1) }, false}, {2, nil, p{Bound: frac(0, 1), Point: zeros(2)}, func(p *p) { p.Point[1] = frac(2, 2) }, false},
		{3, l[:1], upper(), func(p *p) {}, false}, {3, append(slices.Clone(l), eq(-1, 0)), upper(), func(p *p) { p.Weights = append(p.Weights, frac(0, 1)) }, false},
		{3, l, upper(), func(p *p) { p.Cell = -1 }, false}, {3, l, upper(), func(p *p) { p.Cell = 3 }, false}, {3, l, upper(), func(p *p) { p.Cell = 1 }, false}, {3, l, upper(), func(p *p) { p.Upper = false }, false}, {3, l, lower(), func(p *p) { p.Upper = true }, false},
		{3, l, upper(), func(p *p) { p.Bound = frac(2, 1) }, false}, {3, l, upper(), func(p *p) { p.Bound = frac(6, 2) }, false}, {3, l, upper(), func(p *p) { p.Bound = p.Point[2]; p.Cell = 2 }, false},
		{3, l, upper(), func(p *p) { p.Point = lower().Point }, false}, {3, l, upper(), func(p *p) { p.Point = p.Point[:2] }, false}, {3, l, upper(), func(p *p) { p.Point = append(p.Point, frac(0, 1)) }, false}, {3, l, upper(), func(p *p) { p.Point[2] = frac(2, 2) }, false}, {3, l, upper(), func(p *p) { p.Point[2] = frac(2, 1) }, false}, {3, l, upper(), func(p *p) { p.Point = []api.Frac{frac(4, 1), frac(-1, 1), frac(2, 1)}; p.Bound = frac(4, 1) }, false},
		{3, l, upper(), func(p *p) { p.Weights = p.Weights[:1] }, false}, {3, l, upper(), func(p *p) { p.Weights = append(p.Weights, frac(0, 1)) }, false}, {3, l, upper(), func(p *p) { p.Weights[1] = frac(0, 2) }, false}, {3, l, upper(), func(p *p) { p.Weights = []api.Frac{frac(0, 1), frac(3, 1)} }, false}, {3, l, upper(), func(p *p) { p.Weights[0] = frac(2, 1) }, false}, {3, l, upper(), func(p *p) { p.Weights[1] = frac(1, 1) }, false},
		{3, l, lower(), func(p *p) { p.Weights[1] = frac(-2, 1) }, false}, {3, l, lower(), func(p *p) { p.Weights = []api.Frac{frac(0, 1), frac(2, 1)} }, false}, {3, l, lower(), func(p *p) { p.Weights = []api.Frac{frac(1, 3), frac(1, 1)} }, false},
		{3, l, upper(), func(p *p) { p.Weights = []api.Frac{frac(4, 3), frac(-1, 1)} }, false},
		{3, l, upper(), func(p *p) { p.Weights[0] = frac(api.MaxFrac, 1) }, false}, {3, l, upper(), func(p *p) { *p = api.Proof{Cell: 0, Upper: true} }, false},
		{1, []api.Equation{eq(api.MaxValue, 0)}, p{Upper: true, Bound: frac(api.MaxValue, 1), Point: []api.Frac{frac(api.MaxValue, 1)}, Weights: []api.Frac{frac(1, 1)}}, func(p *p) {}, true},
	} {
		c.change(&c.p)
		want(t, fmt.Sprint(i), bounds.Check(c.cells, c.l, c.p), c.is)
	}
}

func zeros(n int) []api.Frac {
	var l []api.Frac
	for range n {
		l = append(l, frac(0, 1))
	}
	return l
}

// TestCheckOverflow is about P30.3: what cannot be computed within the limits of fractions, in the order in which it is computed.
func TestCheckOverflow(t *testing.T) {
	l := []api.Equation{eq(0, 0), eq(0, 1), eq(0, 0)}
	proof := func(w ...api.Frac) api.Proof {
		return api.Proof{Cell: 0, Upper: true, Bound: frac(0, 1), Point: zeros(2), Weights: w}
	}
	const most = api.MaxFrac
	for i, c := range []struct {
		p  api.Proof
		is bool
	}{
		{proof(frac(most, 1), frac(0, 1), frac(-most+1, 1)), true},
		{proof(frac(most, 1), frac(0, 1), frac(1, 1)), false},
		{proof(frac(1, 1<<40), frac(0, 1), frac(1, 1<<40-1)), false},
	} {
		want(t, fmt.Sprint(i), bounds.Check(2, l, c.p), c.is)
	}
	three := []api.Equation{eq(1, 0, 1, 2)}
	point := []api.Frac{frac(1, 1<<31-1), frac(1, 1<<31), frac(0, 1)}
	want(t, "a point", bounds.Check(3, three, api.Proof{Cell: 2, Bound: frac(0, 1), Point: point, Weights: zeros(1)}), false)
}
