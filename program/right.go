package program

import (
	"slices"

	"dataenclave/api"
	"dataenclave/condition"
	"dataenclave/schema"
	"dataenclave/text"
)

// Right reports whether an expression is right for a schema.
func Right(b schema.Book, e api.Expr) bool {
	if !bare(e) {
		return false
	}
	switch e.Op {
	case api.ExprInt:
		return -api.MaxInt <= e.Num && e.Num <= api.MaxInt
	case api.ExprName:
		return text.Name(e.Name)
	case api.ExprAdd, api.ExprSub, api.ExprMul, api.ExprDiv:
		return len(e.Kids) == 2 && operand(b, e.Kids[0]) && operand(b, e.Kids[1])
	case api.ExprCount:
		return said(b, e.Cond)
	case api.ExprSum, api.ExprMean, api.ExprBox:
		return b.Measure(e.Column) && said(b, e.Cond)
	case api.ExprTable:
		return dimsFit(b, e.Dims) && (e.Column == -1 || b.Measure(e.Column)) && said(b, e.Cond)
	case api.ExprModel:
		return b.Measure(e.Column) && termsFit(b, e) && said(b, e.Cond)
	case api.ExprCurve:
		return b.Measure(e.Column) && b.Columns[e.Column].Low >= 0 && said(b, e.Event) && said(b, e.Cond)
	case api.ExprHist:
		_, ok := b.Width(e.Column, e.Num)
		return ok && said(b, e.Cond)
	}
	return false
}

// operand reports whether an expression is right, and can be calculated with.
func operand(b schema.Book, e api.Expr) bool { return e.Op < api.ExprTable && Right(b, e) }

// said reports whether a condition is right.
func said(b schema.Book, c api.Cond) bool {
	_, e := condition.Open(b, c)
	return e == api.OK
}

func dimsFit(b schema.Book, dims []api.Pick) bool {
	if len(dims) == 0 || len(dims) > api.MaxDims {
		return false
	}
	for i, dim := range dims {
		earlier := slices.ContainsFunc(dims[:i], func(p api.Pick) bool { return p.Column == dim.Column })
		if earlier || !b.Coded(dim.Column) || b.Pick(dim) != api.OK {
			return false
		}
	}
	return true
}

func termsFit(b schema.Book, e api.Expr) bool {
	if len(e.Columns) == 0 || len(e.Columns) > api.MaxTerms {
		return false
	}
	for i, column := range e.Columns {
		if column == e.Column || slices.Contains(e.Columns[:i], column) || !b.Measure(column) {
			return false
		}
	}
	return true
}

// bare reports whether all fields of an expression that its Op does not use are zero.
func bare(e api.Expr) bool {
	switch e.Op {
	case api.ExprInt:
		e.Num = 0
	case api.ExprName:
		e.Name = ""
	case api.ExprAdd, api.ExprSub, api.ExprMul, api.ExprDiv:
		e.Kids = nil
	case api.ExprCount:
		e.Cond = api.Cond{}
	case api.ExprSum, api.ExprMean, api.ExprBox:
		e.Column, e.Cond = 0, api.Cond{}
	case api.ExprTable:
		e.Dims, e.Column, e.Cond = nil, 0, api.Cond{}
	case api.ExprModel:
		e.Column, e.Columns, e.Cond = 0, nil, api.Cond{}
	case api.ExprCurve:
		e.Column, e.Event, e.Cond = 0, api.Cond{}, api.Cond{}
	case api.ExprHist:
		e.Column, e.Num, e.Cond = 0, 0, api.Cond{}
	}
	return e.Num == 0 && e.Name == "" && e.Column == 0 && len(e.Columns)+len(e.Dims)+len(e.Kids) == 0 && condition.Zero(e.Cond) && condition.Zero(e.Event)
}
