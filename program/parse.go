package program

import (
	"slices"
	"strings"

	"dataenclave/api"
	"dataenclave/condition"
	"dataenclave/schema"
	"dataenclave/text"
)

// Parse returns the program with a text, and 0, or the number of a line with an error.
func Parse(s api.Schema, text string) ([]api.Statement, int, api.Errno) {
	book, e := schema.Open(s)
	if e != api.OK {
		return nil, 0, e
	}
	if len(text) > api.MaxText {
		return nil, 0, api.ErrLimit
	}
	var l []api.Statement
	for text != "" {
		line, rest, ended := strings.Cut(text, "\n")
		x, ok := statement(book, line)
		if !ended || !ok {
			return nil, len(l) + 1, api.ErrForm
		}
		l = append(l, x)
		text = rest
	}
	if n, e := CheckIn(book, l); e != api.OK {
		return nil, n + 1, e
	}
	return l, 0, api.OK
}

// statement returns the statement of a line, whose expression is right, and whether there is one.
func statement(b schema.Book, line string) (api.Statement, bool) {
	word, rest, _ := strings.Cut(line, " ")
	name, expr, ok := strings.Cut(rest, " = ")
	if !ok || name == "" || strings.Contains(name, " ") || word != "let" && word != "out" {
		return api.Statement{}, false
	}
	r := reader{book: b, rest: expr}
	e, ok := r.expr()
	return api.Statement{Name: name, Out: word == "out", Expr: e}, ok && r.rest == "" && Right(b, e)
}

// reader reads an expression from the front.
type reader struct {
	book schema.Book
	rest string
}

// take goes on behind a text, if it comes next.
func (r *reader) take(s string) bool {
	rest, ok := strings.CutPrefix(r.rest, s)
	r.rest = rest
	return ok
}

// until takes what comes before the first byte for which a function holds.
func (r *reader) until(ends func(b byte) bool) string {
	n := 0
	for n < len(r.rest) && !ends(r.rest[n]) {
		n++
	}
	taken := r.rest[:n]
	r.rest = r.rest[n:]
	return taken
}

func (r *reader) expr() (api.Expr, bool) {
	if r.take("(") {
		return r.operation()
	}
	word := r.until(func(b byte) bool { return b == ' ' || b == '(' || b == ')' })
	if r.take("(") {
		return r.call(word)
	}
	if n, ok := text.Number(word); ok {
		return api.Expr{Op: api.ExprInt, Num: n}, true
	}
	return api.Expr{Op: api.ExprName, Name: word}, true
}

// operation takes two expressions with a sign between them.
func (r *reader) operation() (api.Expr, bool) {
	left, ok := r.expr()
	if !ok {
		return api.Expr{}, false
	}
	all := signs()
	sign := slices.IndexFunc(all[:], func(s string) bool { return r.take(s) })
	if sign < 0 {
		return api.Expr{}, false
	}
	right, ok := r.expr()
	return api.Expr{Op: api.ExprAdd + sign, Kids: []api.Expr{left, right}}, ok && r.take(")")
}

// call takes the parts of a call up to its end. No name and no number has brackets or semicolons in it.
func (r *reader) call(word string) (api.Expr, bool) {
	open := 1
	inside := r.until(func(b byte) bool {
		switch b {
		case '(':
			open++
		case ')':
			open--
		}
		return open == 0
	})
	parts := strings.Split(inside, "; ")
	e := api.Expr{}
	for op := api.ExprCount; op <= api.ExprBox; op++ {
		if word == call(op) {
			e.Op = op
		}
	}
	last := len(parts) - 1
	cond, ok := condition.Read(r.book, parts[last])
	e.Cond = cond
	return e, ok && r.parts(&e, parts[:last]) && r.take(")")
}

// parts reads the parts before the condition into an expression.
func (r *reader) parts(e *api.Expr, l []string) bool {
	switch {
	case e.Op == api.ExprCount:
		return len(l) == 0
	case e.Op == api.ExprSum, e.Op == api.ExprMean, e.Op == api.ExprBox:
		return len(l) == 1 && r.column(l[0], &e.Column)
	case len(l) != 2:
		return false
	case e.Op == api.ExprTable:
		return r.dims(e, l[0]) && r.measure(e, l[1])
	case !r.column(l[0], &e.Column):
		return false
	}
	ok := false
	switch e.Op {
	case api.ExprModel:
		ok = r.terms(e, l[1])
	case api.ExprCurve:
		e.Event, ok = condition.Read(r.book, l[1])
	case api.ExprHist:
		e.Num, ok = text.Number(l[1])
	}
	return ok
}

func (r *reader) column(name string, into *int) bool {
	*into = schema.Find(r.book.Schema, name)
	return *into >= 0
}

func (r *reader) measure(e *api.Expr, name string) bool {
	if name == none {
		e.Column = -1
		return true
	}
	return r.column(name, &e.Column)
}

func (r *reader) dims(e *api.Expr, s string) bool {
	for _, part := range strings.Split(s, ", ") {
		name, number, ok := strings.Cut(part, "/")
		dim := api.Pick{Column: schema.Find(r.book.Schema, name)}
		level, fine := text.Number(number)
		dim.Level = level
		if !ok || !fine || dim.Column < 0 {
			return false
		}
		e.Dims = append(e.Dims, dim)
	}
	return true
}

func (r *reader) terms(e *api.Expr, s string) bool {
	for _, name := range strings.Split(s, ", ") {
		term := 0
		if !r.column(name, &term) {
			return false
		}
		e.Columns = append(e.Columns, term)
	}
	return true
}
