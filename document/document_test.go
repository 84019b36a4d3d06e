package document_test

import (
	"fmt"
	"math"
	"strings"
	"testing"

	"dataenclave/api"
	"dataenclave/document"
	"dataenclave/example"
	"dataenclave/interpret"
	"dataenclave/program"
)

func want(t *testing.T, name string, got, want any) {
	t.Helper()
	if fmt.Sprintf("%+v", got) != fmt.Sprintf("%+v", want) {
		t.Errorf("%s: got %+v, want %+v", name, got, want)
	}
}

func frac(num, den int) api.Frac { return api.Frac{Num: num, Den: den} }

const most = api.MaxInt

// values has a value of each kind, with fields that are told and others.
func values() []api.Value {
	return []api.Value{
		{Kind: api.KindNumber, Number: frac(-1, 2), Lineage: []int{4}},
		{Kind: api.KindTable, Table: api.Table{Dims: example.Picks(1, 2, 6, 0), Measure: -1, Cells: []api.TableCell{{Codes: []int{-1, -1}, Count: 5, Sum: -7, Amount: 9, First: 8, Second: 1, Rows: []int{1}}, {Codes: []int{3, 0}}}}, Lineage: []int{1}},
		{Kind: api.KindModel, Model: api.Model{Measure: 4, Terms: []int{3, 5}, Coefs: []api.Frac{frac(1, 2), frac(0, 1), frac(-3, 1)}, Residual: frac(7, 1), Total: frac(15, 2), Count: 10, Free: 7}},
		{Kind: api.KindCurve, Curve: []api.CurveStep{{Time: 1, AtRisk: 3, Events: 1, Survive: frac(2, 3)}, {Time: 2, AtRisk: 2, Events: 1, Left: 1, Survive: frac(1, 3)}}},
		{Kind: api.KindHist, Hist: []api.Bin{{Low: -5, Count: 1}, {Low: 0, Count: 2}}},
		{Kind: api.KindBox, Box: api.Box{Count: 9, Least: -1, Lower: 0, Middle: 3, Upper: 4, Greatest: 8}},
	}
}

func texts() []string {
	return []string{
		"output n number\nvalue -1/2\n",
		"output n table\nmeasure -1\ndims 1/2 6/0\ncell -1 -1 count 5 sum -7\ncell 3 0 count 0 sum 0\n",
		"output n model\nmeasure 4\nterms 3 5\ncoefs 1/2 0/1 -3/1\nresidual 7/1\ntotal 15/2\ncount 10 free 7\n",
		"output n curve\nstep 1 3 1 0 2/3\nstep 2 2 1 1 1/3\n",
		"output n hist\nbin -5 1\nbin 0 2\n",
		"output n box\nbox 9 -1 0 3 4 8\n",
	}
}

// everything has all fields set, whatever its kind is.
func everything(kind int) api.Value {
	l := values()
	return api.Value{Kind: kind, Number: l[0].Number, Table: l[1].Table, Model: l[2].Model, Curve: l[3].Curve, Hist: l[4].Hist, Box: l[5].Box, Lineage: []int{7}}
}

// TestTold is about P25.1.
func TestTold(t *testing.T) {
	for i, v := range values() {
		told := v
		told.Lineage = nil
		if i == 1 {
			told.Table.Cells = []api.TableCell{{Codes: []int{-1, -1}, Count: 5, Sum: -7}, {Codes: []int{3, 0}}}
		}
		want(t, fmt.Sprint("told ", i), document.Told(v), told)
		want(t, fmt.Sprint("told of everything ", i), document.Told(everything(v.Kind)), told)
	}
	for _, kind := range []int{0, -1, 7, math.MaxInt} {
		want(t, "no kind", document.Told(everything(kind)), api.Value{})
	}
	v := values()[1]
	document.Told(v)
	want(t, "it stays", v, values()[1])
}

// TestSame is about P25.1: each field that is told counts, and no other one.
func TestSame(t *testing.T) {
	for i, v := range values() {
		want(t, "with itself", document.Same(v, values()[i]), true)
		want(t, "with everything", document.Same(v, everything(v.Kind)), true)
		for k, other := range values() {
			want(t, fmt.Sprint(i, k), document.Same(v, other), i == k)
		}
	}
	for i, c := range []struct {
		kind   int
		change func(v *api.Value)
		same   bool
	}{
		{0, func(v *api.Value) { v.Number = frac(1, 2) }, false}, {0, func(v *api.Value) { v.Lineage = nil }, true}, {0, func(v *api.Value) { v.Box.Count++ }, true},
		{1, func(v *api.Value) { v.Table.Measure++ }, false}, {1, func(v *api.Value) { v.Table.Dims[0].Level-- }, false}, {1, func(v *api.Value) { v.Table.Dims = v.Table.Dims[1:] }, false},
		{1, func(v *api.Value) { v.Table.Cells[1].Count++ }, false}, {1, func(v *api.Value) { v.Table.Cells[1].Sum++ }, false}, {1, func(v *api.Value) { v.Table.Cells[1].Codes[1]++ }, false}, {1, func(v *api.Value) { v.Table.Cells = v.Table.Cells[:1] }, false},
		{1, func(v *api.Value) { c := &v.Table.Cells[0]; c.Amount, c.First, c.Second, c.Rows = 0, 0, 0, nil }, true},
		{2, func(v *api.Value) { v.Model.Measure++ }, false}, {2, func(v *api.Value) { v.Model.Terms[1]++ }, false}, {2, func(v *api.Value) { v.Model.Coefs[1].Num++ }, false}, {2, func(v *api.Value) { v.Model.Residual.Num++ }, false}, {2, func(v *api.Value) { v.Model.Total.Den++ }, false}, {2, func(v *api.Value) { v.Model.Count++ }, false}, {2, func(v *api.Value) { v.Model.Free++ }, false},
		{3, func(v *api.Value) { v.Curve[1].Left++ }, false}, {3, func(v *api.Value) { v.Curve = v.Curve[:1] }, false}, {3, func(v *api.Value) { v.Curve[0].Survive.Num++ }, false},
		{4, func(v *api.Value) { v.Hist[1].Low++ }, false}, {4, func(v *api.Value) { v.Hist = append(v.Hist, api.Bin{}) }, false},
		{5, func(v *api.Value) { v.Box.Upper++ }, false}, {5, func(v *api.Value) { v.Hist = values()[4].Hist }, true},
	} {
		v := values()[c.kind]
		c.change(&v)
		want(t, fmt.Sprint("change ", i), fmt.Sprint(document.Same(v, values()[c.kind]), document.Same(values()[c.kind], v)), fmt.Sprint(c.same, c.same))
	}
	want(t, "two that are none", document.Same(everything(0), everything(9)), true)
	want(t, "one that is none", document.Same(everything(0), everything(1)), false)
	want(t, "kinds count", document.Same(api.Value{Kind: api.KindHist}, api.Value{Kind: api.KindCurve}), false)
	want(t, "empty lists", document.Same(api.Value{Kind: api.KindHist}, api.Value{Kind: api.KindHist, Hist: []api.Bin{}}), true)
}

// TestPrint is about P25.2, and back (P25.3).
func TestPrint(t *testing.T) {
	for i, v := range values() {
		text, e := document.Print("n", v)
		want(t, fmt.Sprint("print ", i), fmt.Sprint(text, e), fmt.Sprint(texts()[i], api.OK))
		name, told, line, e := document.Parse(texts()[i])
		want(t, fmt.Sprint("parse ", i), fmt.Sprintf("%s %+v %d %d", name, told, line, e), fmt.Sprintf("%s %+v %d %d", "n", document.Told(v), 0, api.OK))
		text, _ = document.Print("n", everything(v.Kind))
		want(t, fmt.Sprint("print everything ", i), text, texts()[i])
	}
	for _, text := range []string{"output a_1 curve\n", "output x hist\n", "output t table\nmeasure 1099511627776\ndims 0/-1099511627776\n", "output t table\nmeasure 1\ndims 0/1 1/1 2/1\ncell 1 1 1 count 1 sum 1\n", "output m model\nmeasure 0\nterms 3 2 1\ncoefs 1/1 1/1 1/1 1/1\nresidual 0/1\ntotal 0/1\ncount 0 free -1\n", "output m model\nmeasure 0\nterms\ncoefs 1152921504606846976/1\nresidual 0/1\ntotal 0/1\ncount 0 free -1\n"} {
		name, told, line, e := document.Parse(text)
		want(t, text, fmt.Sprint(line, e), "0 0")
		again, e := document.Print(name, told)
		want(t, text, fmt.Sprint(again, e), fmt.Sprint(text, api.OK))
	}
}

func cellsOf(n int) []int {
	var l []int
	for range n {
		l = append(l, 1)
	}
	return l
}

func steps(n int) []api.CurveStep {
	var l []api.CurveStep
	for range n {
		l = append(l, api.CurveStep{Survive: frac(1, 1)})
	}
	return l
}

// TestPrintErrors is about P25.2: names, and values that are not proper.
func TestPrintErrors(t *testing.T) {
	type v = api.Value
	for _, name := range []string{"", "N", "to", "a b", "a\n"} {
		text, e := document.Print(name, v{})
		want(t, "name "+name, fmt.Sprint(text, e), fmt.Sprint("", api.ErrName))
	}
	bad := []api.Frac{{}, frac(2, 4), frac(1, -1), frac(api.MaxFrac+1, 1)}
	var changes []func(v *v)
	numbers := func(kind int, at func(v *v) []*int) {
		changes = append(changes, func(v *v) { *v = values()[kind] }) // the value itself is proper
		probe := values()[kind]
		for i := range at(&probe) {
			for _, n := range []int{most, -most, most + 1, -most - 1, math.MinInt, math.MaxInt} {
				changes = append(changes, func(v *api.Value) { *v = values()[kind]; *at(v)[i] = n })
			}
		}
	}
	numbers(1, func(v *v) []*int {
		t := &v.Table
		return []*int{&t.Measure, &t.Dims[1].Column, &t.Dims[0].Level, &t.Cells[1].Codes[1], &t.Cells[0].Count, &t.Cells[1].Sum}
	})
	numbers(2, func(v *v) []*int { m := &v.Model; return []*int{&m.Measure, &m.Terms[1], &m.Count, &m.Free} })
	numbers(3, func(v *v) []*int {
		c := &v.Curve[1]
		return []*int{&c.Time, &c.AtRisk, &c.Events, &c.Left}
	})
	numbers(4, func(v *v) []*int { return []*int{&v.Hist[0].Low, &v.Hist[1].Count} })
	numbers(5, func(v *v) []*int {
		b := &v.Box
		return []*int{&b.Count, &b.Least, &b.Lower, &b.Middle, &b.Upper, &b.Greatest}
	})
	right := 0
	for i, change := range changes {
		var x v
		change(&x)
		_, e := document.Print("n", x)
		if e == api.OK {
			right++
		} else {
			want(t, fmt.Sprint("change ", i), e, api.ErrForm)
		}
	}
	want(t, "so many are proper", right, 5+2*22)
	for _, f := range bad {
		for i, x := range []v{{Kind: 1, Number: f}, {Kind: 3, Model: api.Model{Coefs: []api.Frac{f}, Residual: frac(0, 1), Total: frac(0, 1)}}, {Kind: 3, Model: api.Model{Coefs: []api.Frac{frac(0, 1)}, Residual: f, Total: frac(0, 1)}}, {Kind: 3, Model: api.Model{Coefs: []api.Frac{frac(0, 1)}, Residual: frac(0, 1), Total: f}}, {Kind: 4, Curve: []api.CurveStep{{Survive: f}}}} {
			text, e := document.Print("n", x)
			want(t, fmt.Sprint("fraction ", f, i), fmt.Sprint(text, e), fmt.Sprint("", api.ErrForm))
		}
	}
	ones := []api.Frac{frac(1, 1), frac(1, 1), frac(1, 1), frac(1, 1), frac(1, 1)}
	model := func(terms, coefs int) v {
		return v{Kind: 3, Model: api.Model{Terms: []int{1, 2, 3, 4}[:terms], Coefs: ones[:coefs], Residual: ones[0], Total: ones[0]}}
	}
	table := func(dims int, codes ...int) v {
		x := v{Kind: 2, Table: api.Table{Dims: make([]api.Pick, dims)}}
		for _, n := range codes {
			x.Table.Cells = append(x.Table.Cells, api.TableCell{Codes: make([]int, n)})
		}
		return x
	}
	for i, c := range []struct {
		v v
		e api.Errno
	}{
		{everything(0), api.ErrForm}, {everything(7), api.ErrForm}, {everything(-1), api.ErrForm},
		{table(0), api.ErrForm}, {table(3, 3), api.OK}, {table(4, 4), api.ErrForm}, {table(2, 2, 1), api.ErrForm}, {table(1, 2), api.ErrForm}, {table(1, cellsOf(2000)...), api.ErrLimit}, {table(1, cellsOf(2001)...), api.ErrForm},
		{model(0, 1), api.OK}, {model(3, 4), api.OK}, {model(4, 5), api.ErrForm}, {model(2, 2), api.ErrForm}, {model(1, 3), api.ErrForm}, {model(0, 0), api.ErrForm},
		{v{Kind: 4, Curve: steps(200)}, api.OK}, {v{Kind: 4, Curve: steps(201)}, api.ErrForm}, {v{Kind: 5, Hist: make([]api.Bin, 200)}, api.OK}, {v{Kind: 5, Hist: make([]api.Bin, 201)}, api.ErrForm},
	} {
		_, e := document.Print("n", c.v)
		want(t, fmt.Sprint("value ", i), e, c.e)
	}
}

// TestLimit is about P25.2 and P25.3: texts of just api.MaxText bytes, and longer ones.
func TestLimit(t *testing.T) {
	x := api.Value{Kind: api.KindTable, Table: api.Table{Dims: example.Picks(1, 1)}}
	length := func() int {
		text, _ := document.Print("n", x)
		return len(text)
	}
	for api.MaxText-length() > 60 {
		x.Table.Cells = append(x.Table.Cells, api.TableCell{Codes: []int{0}})
	}
	for i := 0; length() < api.MaxText; i++ {
		x.Table.Cells[i/10].Sum = x.Table.Cells[i/10].Sum*10 + 1
		if i%10 == 0 {
			x.Table.Cells[i/10].Sum = 10
		}
	}
	text, e := document.Print("n", x)
	want(t, "just so long", fmt.Sprint(len(text), e), fmt.Sprint(api.MaxText, api.OK))
	_, told, line, e := document.Parse(text)
	want(t, "it can be read", fmt.Sprint(document.Same(told, x), line, e), "true 0 0")
	text, e = document.Print("nn", x)
	want(t, "a byte more", fmt.Sprint(text, e), fmt.Sprint("", api.ErrLimit))
	_, told, line, e = document.Parse(strings.Repeat("x", api.MaxText+1))
	want(t, "a byte more to read", fmt.Sprint(told, line, e), fmt.Sprint(api.Value{}, 0, api.ErrLimit))
	_, _, line, e = document.Parse(strings.Repeat("x", api.MaxText))
	want(t, "not too long", fmt.Sprint(line, e), fmt.Sprint(1, api.ErrForm))
}

// TestParseErrors is about P25.3: the first line that is wrong.
func TestParseErrors(t *testing.T) {
	table, model := "output n table\nmeasure 1\ndims 1/2\n", "output n model\nmeasure 4\nterms 3 5\ncoefs 1/2 0/1 -3/1\nresidual 7/1\ntotal 15/2\ncount 10 free 7\n"
	replace := func(old, new string) string { return strings.Replace(model, old, new, 1) }
	for _, c := range []struct {
		text string
		line int
	}{
		{"", 1}, {"\n", 1}, {"x\n", 1}, {"output n\n", 1}, {"output n number", 1}, {"output N number\nvalue 1/1\n", 1}, {"output to number\nvalue 1/1\n", 1}, {"output n numbers\nvalue 1/1\n", 1}, {"output n number x\n", 1}, {"output  n number\n", 1}, {"output n number \n", 1}, {"Output n number\n", 1}, {"output number n\n", 1}, {"output n \n", 1},
		{"output n number\n", 2}, {"output n number\nvalue 1/2", 2}, {"output n number\nvalue 1/2\n\n", 3}, {"output n number\nvalue 1/2\nx", 3}, {"output n number\nvalue 1/2\nvalue 1/2\n", 3},
		{"output n number\nvalue 1\n", 2}, {"output n number\nvalue 2/4\n", 2}, {"output n number\nvalue 1/0\n", 2}, {"output n number\nvalue 1/-2\n", 2}, {"output n number\nvalue 01/2\n", 2}, {"output n number\nvalue 1/2 1/2\n", 2}, {"output n number\nvalue\n", 2}, {"output n number\nvalue 1152921504606846977/1\n", 2}, {"output n number\nvalue 1/2/3\n", 2}, {"output n number\nvalues 1/2\n", 2}, {"output n number\nvalue /2\n", 2}, {"output n number\nvalue 1/\n", 2},
		{"output n table\n", 2}, {"output n table\ndims 1/1\n", 2}, {"output n table\nmeasure\n", 2}, {"output n table\nmeasure 1 2\n", 2}, {"output n table\nmeasure 1099511627777\n", 2}, {"output n table\nmeasure -1\n", 3}, {"output n table\nmeasure x\ndims 1/1\n", 2},
		{"output n table\nmeasure 1\ndims\n", 3}, {"output n table\nmeasure 1\ndims 1\n", 3}, {"output n table\nmeasure 1\ndims 1/1 1/1 1/1 1/1\n", 3}, {"output n table\nmeasure 1\ndims 1/x\n", 3}, {"output n table\nmeasure 1\ndims x/1\n", 3}, {"output n table\nmeasure 1\ndims 1/1/1\n", 3}, {"output n table\nmeasure 1\ndims 1/1099511627777\n", 3}, {"output n table\nmeasure 1\ndims 1/1 2/\n", 3},
		{table + "cell 1 count 1 sum 1", 4}, {table + "cell count 1 sum 1\n", 4}, {table + "cell 1 1 count 1 sum 1\n", 4}, {table + "cell 1 sum 1 count 1\n", 4}, {table + "cell 1 count 1\n", 4}, {table + "cell 1 count 1 sum 1 1\n", 4}, {table + "cell x count 1 sum 1\n", 4}, {table + "cell 1 count x sum 1\n", 4}, {table + "cell 1 count 1 sum x\n", 4}, {table + "cell 1 count 1 sum 1\nbin 1 1\n", 5}, {table + "cell 1 count 1 sum 1\n\n", 5}, {table + "cells 1 count 1 sum 1\n", 4}, {table + "cell 1 count 1 sums 1\n", 4}, {table + "cell 1 counts 1 sum 1\n", 4}, {table + "cell 1 count 1099511627777 sum 1\n", 4},
		{replace("measure 4", "measure 4 4"), 2}, {replace("terms 3 5", "terms 3 x"), 3}, {replace("terms 3 5", "terms 3 5 7 9"), 3}, {replace("terms 3 5", "terms 3"), 4}, {replace("terms 3 5", "terms 3 5 "), 3}, {replace("terms 3 5", "terms 3 1099511627777"), 3}, {replace("coefs 1/2", "coefs 2/4"), 4}, {replace("coefs 1/2", "coefs"), 4}, {replace("coefs", "coef"), 4}, {replace("residual 7/1", "residual 7"), 5}, {replace("residual 7/1\n", ""), 5}, {replace("total 15/2", "total 15/2 1/1"), 6}, {replace("total", "Total"), 6}, {replace("count 10 free 7", "count 10 7"), 7}, {replace("count 10 free 7", "count 10 free 7 free 7"), 7}, {replace("count 10 free 7", "count x free 7"), 7}, {replace("count 10 free 7", "count 10 free x"), 7}, {replace("count 10 free 7", "count 10 three 7"), 7}, {model + "x\n", 8}, {strings.TrimSuffix(model, "\n"), 7}, {replace("count 10 free 7\n", ""), 7},
		{"output n curve\nstep 1 3 1 0\n", 2}, {"output n curve\nstep 1 3 1 0 2/3 1\n", 2}, {"output n curve\nstep 1 3 1 x 2/3\n", 2}, {"output n curve\nstep 1 3 1 0 4/6\n", 2}, {"output n curve\nstep 1 3 1 0 2/3\nbin 1 1\n", 3}, {"output n curve\nstep 1 3 1 0 2/3\nstep", 3}, {"output n curve\n" + strings.Repeat("step 0 0 0 0 1/1\n", 201), 202}, {"output n curve\nstep 1099511627777 3 1 0 2/3\n", 2},
		{"output n hist\nbin 1\n", 2}, {"output n hist\nbin 1 2 3\n", 2}, {"output n hist\nbin x 1\n", 2}, {"output n hist\nbin 1 1\nstep\n", 3}, {"output n hist\n" + strings.Repeat("bin 0 0\n", 201), 202}, {"output n hist\nbin 1 1099511627777\n", 2},
		{"output n box\n", 2}, {"output n box\nbox 1 2 3 4 5\n", 2}, {"output n box\nbox 1 2 3 4 5 6 7\n", 2}, {"output n box\nbox 1 2 3 4 5 x\n", 2}, {"output n box\nbox 1 2 3 4 5 6\nbox 1 2 3 4 5 6\n", 3},
	} {
		name, v, line, e := document.Parse(c.text)
		want(t, c.text[:min(len(c.text), 100)], fmt.Sprintf("%q %v %d %d", name, v, line, e), fmt.Sprintf("%q %v %d %d", "", api.Value{}, c.line, api.ErrForm))
	}
	for _, text := range []string{"output n curve\n" + strings.Repeat("step 0 0 0 0 1/1\n", 200), "output n hist\n" + strings.Repeat("bin 0 0\n", 200)} {
		_, _, line, e := document.Parse(text)
		want(t, "as many as there can be", fmt.Sprint(line, e), "0 0")
	}
}

// TestExample is about P25.2 and P25.3: all values of a program, there and back.
func TestExample(t *testing.T) {
	l, _, _ := program.Parse(example.Schema(), example.Text)
	values, _, e := interpret.Run(example.Schema(), example.Extract(), l)
	want(t, "run", e, api.OK)
	for _, x := range values {
		text, e := document.Print(x.Name, x.Value)
		want(t, x.Name, e, api.OK)
		name, told, line, e := document.Parse(text)
		want(t, x.Name, fmt.Sprint(name, line, e), fmt.Sprint(x.Name, 0, api.OK))
		want(t, x.Name, told, document.Told(x.Value))
		want(t, x.Name, document.Same(told, x.Value), true)
		again, _ := document.Print(name, told)
		want(t, x.Name, again, text)
	}
}
