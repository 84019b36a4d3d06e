package deposit

import (
	"slices"
	"strings"

	"dataenclave/api"
	"dataenclave/text"
)

// The parts of a file, in their order.
const (
	partLists = iota
	partColumns
	partRows
)

// file is what was read of a file so far, and the part in which the last line stood.
type file struct {
	part   int
	schema api.Schema
	rows   [][]int
}

// Parse returns what a file contains, and 0, or the number of a line with an error.
func Parse(s string) (api.Schema, [][]int, int, api.Errno) {
	if len(s) > api.MaxText {
		return api.Schema{}, nil, 0, api.ErrLimit
	}
	var f file
	if number, e := f.read(s); e != api.OK {
		return api.Schema{}, nil, number, e
	}
	if _, e := Print(f.schema, f.rows); e != api.OK {
		return api.Schema{}, nil, 0, e
	}
	return f.schema, f.rows, 0, api.OK
}

// read reads all lines, and returns the number of the first one with an error.
func (f *file) read(s string) (int, api.Errno) {
	rest := s
	for number := 1; ; number++ {
		first, behind, ended := strings.Cut(rest, "\n")
		words := text.Words(first)
		if !ended || len(words) == 0 {
			return number, api.ErrForm
		}
		if words[0] == "sum" {
			return end(words, Sum(s[:len(s)-len(rest)]), number, behind)
		}
		if !f.take(words) {
			return number, api.ErrForm
		}
		rest = behind
	}
}

// end reads the line of the sum, behind which nothing may stand.
func end(words []string, sum, number int, behind string) (int, api.Errno) {
	if len(words) != 2 {
		return number, api.ErrForm
	}
	value, ok := text.Number(words[1])
	switch {
	case !ok:
		return number, api.ErrForm
	case value != sum:
		return number, api.ErrSum
	case behind != "":
		return number + 1, api.ErrForm
	}
	return 0, api.OK
}

// take reads the words of a line, and reports whether they can stand here.
func (f *file) take(words []string) bool {
	switch words[0] {
	case "list":
		return f.list(words[1:])
	case "code":
		return f.code(words[1:])
	case "id", "coded", "measure":
		return f.column(words[0], words[1:])
	case "row":
		return f.row(words[1:])
	}
	return false
}

func (f *file) list(words []string) bool {
	if f.part != partLists || len(words) != 1 {
		return false
	}
	f.schema.Lists = append(f.schema.Lists, api.CodeList{Name: words[0]})
	return true
}

func (f *file) code(words []string) bool {
	if f.part != partLists || len(f.schema.Lists) == 0 || len(words) != 2 {
		return false
	}
	parent, ok := text.Number(words[1])
	last := &f.schema.Lists[len(f.schema.Lists)-1]
	last.Codes = append(last.Codes, api.Code{Name: words[0], Parent: parent})
	return ok
}

func (f *file) column(kind string, words []string) bool {
	if f.part > partColumns || len(words) == 0 {
		return false
	}
	f.part = partColumns
	c, ok := api.Column{}, false
	switch kind {
	case "id":
		c, ok = api.Column{Kind: api.ColumnId}, len(words) == 1
	case "coded":
		c, ok = codedColumn(words[1:])
	case "measure":
		c, ok = measureColumn(words[1:])
	}
	c.Name = words[0]
	f.schema.Columns = append(f.schema.Columns, c)
	return ok
}

func codedColumn(words []string) (api.Column, bool) {
	if len(words) != 1 {
		return api.Column{}, false
	}
	list, ok := text.Number(words[0])
	return api.Column{Kind: api.ColumnCode, List: list}, ok
}

func measureColumn(words []string) (api.Column, bool) {
	if len(words) < 4 || words[2] != "need" && words[2] != "may" {
		return api.Column{}, false
	}
	var numbers []int
	for _, w := range slices.Concat(words[:2], words[3:]) {
		n, ok := text.Number(w)
		if !ok {
			return api.Column{}, false
		}
		numbers = append(numbers, n)
	}
	return api.Column{Kind: api.ColumnMeasure, Low: numbers[0], High: numbers[1], Widths: numbers[2:], Optional: words[2] == "may"}, true
}

func (f *file) row(words []string) bool {
	if len(words) != len(f.schema.Columns) {
		return false
	}
	f.part = partRows
	var row []int
	for i, c := range f.schema.Columns {
		v, ok := f.value(c, words[i])
		if !ok {
			return false
		}
		row = append(row, v)
	}
	f.rows = append(f.rows, row)
	return true
}

// value returns the value of a word in a column.
func (f *file) value(c api.Column, word string) (int, bool) {
	switch {
	case c.Kind == api.ColumnCode:
		if c.List < 0 || c.List >= len(f.schema.Lists) {
			return 0, false
		}
		code := slices.IndexFunc(f.schema.Lists[c.List].Codes, func(x api.Code) bool { return x.Name == word })
		return code, code >= 0
	case c.Optional && word == missing:
		return api.Missing, true
	}
	v, ok := text.Number(word)
	return v, ok && (c.Kind == api.ColumnId || v != api.Missing)
}
