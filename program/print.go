package program

import (
	"strconv"
	"strings"

	"dataenclave/api"
	"dataenclave/condition"
	"dataenclave/schema"
)

// Print returns the text of a program.
func Print(s api.Schema, l []api.Statement) (string, api.Errno) {
	book, e := schema.Open(s)
	if e != api.OK {
		return "", e
	}
	if _, e := CheckIn(book, l); e != api.OK {
		return "", e
	}
	var all strings.Builder
	for _, x := range l {
		word := "let "
		if x.Out {
			word = "out "
		}
		all.WriteString(word + x.Name + " = " + show(book, x.Expr) + "\n")
	}
	if all.Len() > api.MaxText {
		return "", api.ErrLimit
	}
	return all.String(), api.OK
}

// signs returns the signs of the operations from ExprAdd to ExprDiv.
func signs() [4]string { return [4]string{" + ", " - ", " * ", " / "} }

// show returns the text of a right expression.
func show(b schema.Book, e api.Expr) string {
	switch e.Op {
	case api.ExprInt:
		return strconv.Itoa(e.Num)
	case api.ExprName:
		return e.Name
	case api.ExprAdd, api.ExprSub, api.ExprMul, api.ExprDiv:
		return "(" + show(b, e.Kids[0]) + signs()[e.Op-api.ExprAdd] + show(b, e.Kids[1]) + ")"
	}
	c, _ := condition.Open(b, e.Cond)
	parts := append(showParts(b, e), c.Print())
	return call(e.Op) + "(" + strings.Join(parts, "; ") + ")"
}

// showParts returns the parts of a call before its condition.
func showParts(b schema.Book, e api.Expr) []string {
	switch e.Op {
	case api.ExprCount:
		return nil
	case api.ExprTable:
		var dims []string
		for _, dim := range e.Dims {
			dims = append(dims, b.Columns[dim.Column].Name+"/"+strconv.Itoa(dim.Level))
		}
		measure := none
		if e.Column != -1 {
			measure = b.Columns[e.Column].Name
		}
		return []string{strings.Join(dims, ", "), measure}
	}
	parts := []string{b.Columns[e.Column].Name}
	switch e.Op {
	case api.ExprModel:
		var terms []string
		for _, term := range e.Columns {
			terms = append(terms, b.Columns[term].Name)
		}
		parts = append(parts, strings.Join(terms, ", "))
	case api.ExprCurve:
		event, _ := condition.Open(b, e.Event)
		parts = append(parts, event.Print())
	case api.ExprHist:
		parts = append(parts, strconv.Itoa(e.Num))
	}
	return parts
}

// none stands for the measure of a table of counts alone.
const none = "-"

// call returns the word of an operation that has a condition.
func call(op int) string {
	switch op {
	case api.ExprCount:
		return "count"
	case api.ExprSum:
		return "sum"
	case api.ExprMean:
		return "mean"
	case api.ExprTable:
		return "table"
	case api.ExprModel:
		return "model"
	case api.ExprCurve:
		return "curve"
	case api.ExprHist:
		return "hist"
	case api.ExprBox:
		return "box"
	}
	return ""
}
