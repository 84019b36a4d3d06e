package condition

import (
	"slices"
	"strconv"
	"strings"

	"dataenclave/api"
	"dataenclave/schema"
	"dataenclave/text"
)

// Print returns the text.
func (x Clause) Print() string { return show(x.book, x.cond) }

func show(b schema.Book, c api.Cond) string {
	name := b.Columns[c.Column].Name
	switch c.Op {
	case api.CondUnder:
		return name + " under " + b.Lists[b.Columns[c.Column].List].Codes[c.Code].Name
	case api.CondBetween:
		return name + " from " + strconv.Itoa(c.Low) + " to " + strconv.Itoa(c.High)
	case api.CondMissing:
		return name + " missing"
	case api.CondAnd:
		return "(" + show(b, c.Kids[0]) + " and " + show(b, c.Kids[1]) + ")"
	case api.CondOr:
		return "(" + show(b, c.Kids[0]) + " or " + show(b, c.Kids[1]) + ")"
	case api.CondNot:
		return "not " + show(b, c.Kids[0])
	}
	return "all"
}

// reader reads a text from the front.
type reader struct {
	book schema.Book
	rest string
}

// Read returns the right condition with a text, and whether there is one.
func Read(b schema.Book, s string) (api.Cond, bool) {
	r := reader{book: b, rest: s}
	c, ok := r.cond(1)
	if !ok || r.rest != "" {
		return api.Cond{}, false
	}
	x, e := Open(b, c)
	if e != api.OK || x.Print() != s {
		return api.Cond{}, false
	}
	return c, true
}

// take goes on behind a text, if it comes next.
func (r *reader) take(s string) bool {
	rest, ok := strings.CutPrefix(r.rest, s)
	r.rest = rest
	return ok
}

// word takes all letters, digits and signs that come next.
func (r *reader) word() string {
	n := strings.IndexAny(r.rest, " ()")
	if n < 0 {
		n = len(r.rest)
	}
	word := r.rest[:n]
	r.rest = r.rest[n:]
	return word
}

func (r *reader) cond(deep int) (api.Cond, bool) {
	switch {
	case deep > api.MaxDepth:
		return api.Cond{}, false
	case r.take("("):
		return r.pair(deep)
	case r.take("not "):
		kid, ok := r.cond(deep + 1)
		return api.Cond{Op: api.CondNot, Kids: []api.Cond{kid}}, ok
	}
	return r.atom()
}

func (r *reader) pair(deep int) (api.Cond, bool) {
	left, ok := r.cond(deep + 1)
	if !ok {
		return api.Cond{}, false
	}
	op := api.CondAnd
	if !r.take(" and ") {
		op = api.CondOr
		if !r.take(" or ") {
			return api.Cond{}, false
		}
	}
	right, ok := r.cond(deep + 1)
	return api.Cond{Op: op, Kids: []api.Cond{left, right}}, ok && r.take(")")
}

func (r *reader) atom() (api.Cond, bool) {
	word := r.word()
	if word == "all" {
		return api.Cond{Op: api.CondAll}, true
	}
	c := api.Cond{Column: schema.Find(r.book.Schema, word)}
	if c.Column < 0 {
		return c, false
	}
	ok := true
	switch {
	case r.take(" missing"):
		c.Op = api.CondMissing
	case r.take(" under "):
		c.Op = api.CondUnder
		c.Code, ok = r.code(c.Column)
	case r.take(" from "):
		c.Op = api.CondBetween
		c.Low, c.High, ok = r.span()
	}
	return c, ok
}

// code takes the name of a code of a column.
func (r *reader) code(column int) (int, bool) {
	c, ok := r.book.Column(column, api.ColumnCode)
	if !ok {
		return 0, false
	}
	name := r.word()
	code := slices.IndexFunc(r.book.Lists[c.List].Codes, func(x api.Code) bool { return x.Name == name })
	return code, code >= 0
}

// span takes two numbers.
func (r *reader) span() (int, int, bool) {
	low, ok := text.Number(r.word())
	if !ok || !r.take(" to ") {
		return 0, 0, false
	}
	high, ok := text.Number(r.word())
	return low, high, ok
}
