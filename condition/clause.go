package condition

import (
	"slices"

	"dataenclave/api"
	"dataenclave/schema"
	"dataenclave/tree"
)

// Clause is a condition that Check accepts, with its schema, so that questions about it need no second check.
type Clause struct {
	book schema.Book
	cond api.Cond
}

// Open returns the clause of a condition, or its first error.
func Open(b schema.Book, c api.Cond) (Clause, api.Errno) {
	if tree.Countdown(c, kids, api.MaxNodes) < 0 {
		return Clause{}, api.ErrLimit
	}
	if tree.Depth(c, kids) > api.MaxDepth {
		return Clause{}, api.ErrDepth
	}
	if e := check(b, c); e != api.OK {
		return Clause{}, e
	}
	return Clause{book: b, cond: c}, api.OK
}

func kids(c api.Cond) []api.Cond { return c.Kids }

func check(b schema.Book, c api.Cond) api.Errno {
	if c.Op < api.CondAll || c.Op > api.CondNot {
		return api.ErrKind
	}
	if !formed(c) {
		return api.ErrForm
	}
	if e := checkParts(b, c); e != api.OK {
		return e
	}
	for _, kid := range c.Kids {
		if e := check(b, kid); e != api.OK {
			return e
		}
	}
	return api.OK
}

// formed reports whether a condition has the right number of Kids, and nothing in fields that it does not use.
func formed(c api.Cond) bool {
	used, count := api.Cond{Op: c.Op, Kids: c.Kids}, 0
	switch c.Op {
	case api.CondUnder:
		used.Column, used.Code = c.Column, c.Code
	case api.CondBetween:
		used.Column, used.Low, used.High = c.Column, c.Low, c.High
	case api.CondMissing:
		used.Column = c.Column
	case api.CondAnd, api.CondOr:
		count = 2
	case api.CondNot:
		count = 1
	}
	same := used.Column == c.Column && used.Code == c.Code && used.Low == c.Low && used.High == c.High
	return same && len(c.Kids) == count
}

func checkParts(b schema.Book, c api.Cond) api.Errno {
	switch c.Op {
	case api.CondUnder:
		column, ok := b.Column(c.Column, api.ColumnCode)
		if !ok {
			return api.ErrColumn
		}
		if c.Code < 0 || c.Code >= len(b.Lists[column.List].Codes) {
			return api.ErrCode
		}
	case api.CondBetween:
		if !b.Measure(c.Column) {
			return api.ErrColumn
		}
		if c.Low < -api.MaxMeasure || c.High > api.MaxMeasure || c.Low > c.High {
			return api.ErrRange
		}
	case api.CondMissing:
		if column, ok := b.Column(c.Column, api.ColumnMeasure); !ok || !column.Optional {
			return api.ErrColumn
		}
	}
	return api.OK
}

// truth puts together what a condition says, where about says it for conditions about a column.
func truth(c api.Cond, about func(c api.Cond) int) int {
	switch c.Op {
	case api.CondAll:
		return api.True
	case api.CondAnd:
		return min(truth(c.Kids[0], about), truth(c.Kids[1], about))
	case api.CondOr:
		return max(truth(c.Kids[0], about), truth(c.Kids[1], about))
	case api.CondNot:
		return -truth(c.Kids[0], about)
	}
	return about(c)
}

// Says returns the truth value of a condition about a column alone, for a value that a row can have there.
func Says(b schema.Book, c api.Cond, value int) int {
	is := false
	switch {
	case c.Op == api.CondUnder:
		is = b.Under(c.Column, value, c.Code)
	case c.Op == api.CondMissing:
		is = value == api.Missing
	case value == api.Missing:
		return api.Unknown
	default:
		is = c.Low <= value && value <= c.High
	}
	if is {
		return api.True
	}
	return api.False
}

// Eval returns the truth value for a row.
func (x Clause) Eval(row []int) int {
	if !x.book.Fits(row) {
		return api.Unknown
	}
	return truth(x.cond, func(c api.Cond) int { return Says(x.book, c, row[c.Column]) })
}

// About returns the conditions about a column alone.
func (x Clause) About(column int) []api.Cond {
	return slices.DeleteFunc(atoms(x.cond), func(c api.Cond) bool { return c.Column != column })
}

// atoms returns all conditions about columns. No column has the number 0 there: it is the id.
func atoms(c api.Cond) []api.Cond {
	if c.Op == api.CondUnder || c.Op == api.CondBetween || c.Op == api.CondMissing {
		return []api.Cond{c}
	}
	var l []api.Cond
	for _, kid := range c.Kids {
		l = append(l, atoms(kid)...)
	}
	return l
}

// Zero reports whether nothing is set in a condition.
func Zero(c api.Cond) bool {
	return c.Op == 0 && c.Column == 0 && c.Code == 0 && c.Low == 0 && c.High == 0 && len(c.Kids) == 0
}
