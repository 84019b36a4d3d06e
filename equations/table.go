package equations

import (
	"slices"

	"dataenclave/api"
	"dataenclave/cells"
	"dataenclave/schema"
	"dataenclave/tabulate"
)

// Space returns the space of the code columns of a schema, and their numbers.
func Space(s api.Schema) (api.Space, []int, api.Errno) {
	book, e := schema.Open(s)
	if e != api.OK {
		return api.Space{}, nil, e
	}
	return space(book)
}

func space(b schema.Book) (api.Space, []int, api.Errno) {
	var x api.Space
	var columns []int
	for column := range b.Columns {
		if b.Coded(column) {
			x.Sizes = append(x.Sizes, len(leaves(b, column)))
			columns = append(columns, column)
		}
	}
	if e := cells.Check(x); e != api.OK {
		return api.Space{}, nil, e
	}
	return x, columns, api.OK
}

func leaves(b schema.Book, column int) []int { return b.At(column, b.Finest(column)) }

// Table returns what a table says about the space of a schema.
func Table(s api.Schema, t api.Table, number int) (api.Release, api.Errno) {
	book, e := schema.Open(s)
	if e != api.OK {
		return api.Release{}, e
	}
	x, columns, e := space(book)
	if e != api.OK {
		return api.Release{}, e
	}
	if !dimsFit(book, t.Dims) {
		return api.Release{}, api.ErrPlan
	}
	r := api.Release{Number: number}
	var codes [][]int // of the groups of each column
	for _, column := range columns {
		groups, of := grouped(book, t.Dims, column)
		r.View.Groups = append(r.View.Groups, groups)
		codes = append(codes, of)
	}
	for k := range cells.Published(x, r.View) {
		cell := tabulate.Find(t, codesOf(t.Dims, columns, codes, k))
		if cell < 0 {
			return api.Release{}, api.ErrNone
		}
		r.Values = append(r.Values, t.Cells[cell].Count)
	}
	if number < 0 || number >= api.MaxReleases || slices.ContainsFunc(r.Values, func(n int) bool { return n < 0 || n > api.MaxValue }) {
		return api.Release{}, api.ErrRange
	}
	return r, api.OK
}

// dimsFit reports whether the dimensions of a table are different code columns at levels of theirs.
func dimsFit(b schema.Book, dims []api.Pick) bool {
	for i, dim := range dims {
		twice := slices.ContainsFunc(dims[:i], func(p api.Pick) bool { return p.Column == dim.Column })
		if twice || !b.Coded(dim.Column) || !b.Level(dim.Column, dim.Level) {
			return false
		}
	}
	return true
}

// grouped returns the groups of the leaves of a column, and the code that the leaves of each group have at the level of its dimension.
func grouped(b schema.Book, dims []api.Pick, column int) ([]int, []int) {
	level := 0
	if i := place(dims, column); i >= 0 {
		level = dims[i].Level
	}
	var groups, codes []int
	for _, leaf := range leaves(b, column) {
		code := b.Coarse(column, level, leaf)
		if !slices.Contains(codes, code) {
			codes = append(codes, code)
		}
		groups = append(groups, slices.Index(codes, code))
	}
	return groups, codes
}

// place returns which dimension has a column, -1 if none has.
func place(dims []api.Pick, column int) int {
	return slices.IndexFunc(dims, func(p api.Pick) bool { return p.Column == column })
}

// codesOf returns the codes that the cell of a table has which is a published cell.
func codesOf(dims []api.Pick, columns []int, codes [][]int, published int) []int {
	l := make([]int, len(dims))
	for i := len(columns) - 1; i >= 0; i-- {
		code := codes[i][published%len(codes[i])]
		published /= len(codes[i])
		if at := place(dims, columns[i]); at >= 0 {
			l[at] = code
		}
	}
	return l
}

// Counts returns the space of a schema, and how many of some rows, which fit, are in each of its cells.
func Counts(s api.Schema, rows [][]int) (api.Space, []int, api.Errno) {
	book, e := schema.Open(s)
	if e != api.OK {
		return api.Space{}, nil, e
	}
	x, columns, e := space(book)
	if e != api.OK {
		return api.Space{}, nil, e
	}
	counts := make([]int, cells.Count(x))
	for _, row := range rows {
		var at []int
		for _, column := range columns {
			at = append(at, slices.Index(leaves(book, column), row[column]))
		}
		if cell, e := cells.Index(x, at); e == api.OK {
			counts[cell]++
		}
	}
	return x, counts, api.OK
}
