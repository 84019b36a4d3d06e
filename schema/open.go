package schema

import (
	"dataenclave/api"
	"dataenclave/codes"
)

// Book is a schema that Check accepts, with the trees of its lists, so that questions about it need no second check.
type Book struct {
	api.Schema
	trees []codes.Tree
}

// Open returns the book of a schema, or the first error of the schema.
func Open(s api.Schema) (Book, api.Errno) {
	if len(s.Lists) > api.MaxLists || len(s.Columns) > api.MaxColumns {
		return Book{}, api.ErrLimit
	}
	trees, e := openLists(s.Lists)
	if e != api.OK {
		return Book{}, e
	}
	if len(s.Columns) == 0 || s.Columns[0].Kind != api.ColumnId {
		return Book{}, api.ErrColumn
	}
	for i := range s.Columns {
		if e := checkColumn(s, i); e != api.OK {
			return Book{}, e
		}
	}
	return Book{Schema: s, trees: trees}, api.OK
}

func openLists(l []api.CodeList) ([]codes.Tree, api.Errno) {
	var trees []codes.Tree
	for i, list := range l {
		t, e := codes.Open(list)
		if e != api.OK {
			return nil, e
		}
		for _, earlier := range l[:i] {
			if earlier.Name == list.Name {
				return nil, api.ErrDuplicate
			}
		}
		trees = append(trees, t)
	}
	return trees, api.OK
}

func checkColumn(s api.Schema, column int) api.Errno {
	c := s.Columns[column]
	if !codes.Name(c.Name) {
		return api.ErrName
	}
	if Find(s, c.Name) < column {
		return api.ErrDuplicate
	}
	unused := c.List != 0
	switch {
	case c.Kind == api.ColumnId && column == 0:
		unused = unused || measured(c)
	case c.Kind == api.ColumnCode:
		if c.List < 0 || c.List >= len(s.Lists) {
			return api.ErrList
		}
		unused = measured(c)
	case c.Kind == api.ColumnMeasure:
		if e := checkMeasure(c); e != api.OK {
			return e
		}
	default:
		return api.ErrKind
	}
	if unused {
		return api.ErrForm
	}
	return api.OK
}

// measured reports whether a column has something that measures alone have.
func measured(c api.Column) bool {
	return c.Low != 0 || c.High != 0 || len(c.Widths) > 0 || c.Optional
}

func checkMeasure(c api.Column) api.Errno {
	if c.Low < -api.MaxMeasure || c.High > api.MaxMeasure || c.Low > c.High {
		return api.ErrRange
	}
	if len(c.Widths) == 0 || len(c.Widths) > api.MaxWidths {
		return api.ErrLimit
	}
	if c.Widths[0] != 1 {
		return api.ErrRange
	}
	for i, w := range c.Widths[1:] {
		before := c.Widths[i]
		if w <= before || w > api.MaxMeasure || w%before != 0 {
			return api.ErrRange
		}
	}
	return api.OK
}
