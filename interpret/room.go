package interpret

import (
	"slices"

	"dataenclave/api"
	"dataenclave/extract"
	"dataenclave/fraction"
	"dataenclave/lineage"
	"dataenclave/plot"
	"dataenclave/regress"
	"dataenclave/survive"
	"dataenclave/tabulate"
)

// room is where expressions are evaluated whose types are right: a schema and an extract.
type room struct {
	api.Schema
	api.Extract
	opened extract.Opened
}

func (r room) eval(before []api.Binding, e api.Expr) (api.Value, api.Errno) {
	switch e.Op {
	case api.ExprInt:
		return number(e.Num, 1, nil)
	case api.ExprName:
		return last(before, e.Name)
	case api.ExprAdd, api.ExprSub, api.ExprMul, api.ExprDiv:
		return r.operation(before, e)
	case api.ExprCount, api.ExprSum, api.ExprMean:
		return r.simple(e)
	}
	return r.larger(e)
}

// number returns a fraction as a value.
func number(num, den int, keys []int) (api.Value, api.Errno) {
	f, e := fraction.Of(num, den)
	if e != api.OK {
		return api.Value{}, e
	}
	return api.Value{Kind: api.KindNumber, Number: f, Lineage: keys}, api.OK
}

// last returns the value of the last one with a name.
func last(before []api.Binding, name string) (api.Value, api.Errno) {
	for _, x := range slices.Backward(before) {
		if x.Name == name {
			return x.Value, api.OK
		}
	}
	return api.Value{}, api.ErrMissing
}

func (r room) operation(before []api.Binding, e api.Expr) (api.Value, api.Errno) {
	a, err := r.eval(before, e.Kids[0])
	if err != api.OK {
		return api.Value{}, err
	}
	b, err := r.eval(before, e.Kids[1])
	if err != api.OK {
		return api.Value{}, err
	}
	var f api.Frac
	switch e.Op {
	case api.ExprAdd:
		f, err = fraction.Add(a.Number, b.Number)
	case api.ExprSub:
		f, err = fraction.Sub(a.Number, b.Number)
	case api.ExprMul:
		f, err = fraction.Mul(a.Number, b.Number)
	case api.ExprDiv:
		f, err = fraction.Div(a.Number, b.Number)
	}
	if err != api.OK {
		return api.Value{}, err
	}
	return api.Value{Kind: api.KindNumber, Number: f, Lineage: lineage.Union(a.Lineage, b.Lineage)}, api.OK
}

// keys returns the keys of some rows.
func (r room) keys(rows []int) []int {
	var l []int
	for _, row := range rows {
		l = append(l, r.Rows[row][0])
	}
	return l
}

// simple evaluates a number, a sum or a mean of rows.
func (r room) simple(e api.Expr) (api.Value, api.Errno) {
	if e.Op == api.ExprCount {
		rows := tabulate.CountsIn(r.opened, e.Cond, nil)
		return number(len(rows), 1, r.keys(rows))
	}
	rows := tabulate.CountsIn(r.opened, e.Cond, []int{e.Column})
	sum := 0
	for _, value := range tabulate.ValuesIn(r.opened, e.Column, rows) {
		sum += value
	}
	if e.Op == api.ExprSum {
		return number(sum, 1, r.keys(rows))
	}
	return number(sum, len(rows), r.keys(rows))
}

// larger evaluates what is no number.
func (r room) larger(e api.Expr) (api.Value, api.Errno) {
	var v api.Value
	err := api.ErrForm
	switch e.Op {
	case api.ExprTable:
		v.Kind = api.KindTable
		v.Table, err = tabulate.Make(r.Schema, r.Extract, e.Dims, e.Column, e.Cond)
		if err == api.OK {
			v.Lineage = slices.Clone(v.Table.Cells[0].Rows)
		}
	case api.ExprModel:
		v.Kind = api.KindModel
		v.Model, v.Lineage, err = regress.Make(r.Schema, r.Extract, e.Column, e.Columns, e.Cond)
	case api.ExprCurve:
		v.Kind = api.KindCurve
		v.Curve, v.Lineage, err = survive.Make(r.Schema, r.Extract, e.Column, e.Event, e.Cond)
	case api.ExprHist:
		v.Kind = api.KindHist
		v.Hist, v.Lineage, err = plot.Hist(r.Schema, r.Extract, e.Column, e.Num, e.Cond)
	case api.ExprBox:
		v.Kind = api.KindBox
		v.Box, v.Lineage, err = plot.Box(r.Schema, r.Extract, e.Column, e.Cond)
	}
	if err != api.OK {
		return api.Value{}, err
	}
	return v, api.OK
}
