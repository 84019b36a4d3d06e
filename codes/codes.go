// Package codes contains code lists: trees of codes, along which values are made coarser.
package codes

import (
	"slices"

	"dataenclave/api"
	"dataenclave/text"
)

// Name reports whether a string is a name.
func Name(s string) bool { return text.Name(s) }

// Check returns the first error of a code list.
func Check(l api.CodeList) api.Errno {
	_, e := Open(l)
	return e
}

// Levels returns the number of levels of a code list.
func Levels(l api.CodeList) int {
	t, e := Open(l)
	if e != api.OK {
		return -1
	}
	return t.Levels()
}

// Level returns the level of a code: the number of codes above it.
func Level(l api.CodeList, code int) int {
	t, e := Open(l)
	if e != api.OK {
		return -1
	}
	return t.Level(code)
}

// Up returns the code at a level that is a code itself, or stands above it.
func Up(l api.CodeList, code, level int) int {
	t, e := Open(l)
	if e != api.OK {
		return -1
	}
	return t.Up(code, level)
}

// Under reports whether a code is another one, or stands below it.
func Under(l api.CodeList, code, above int) bool {
	t, e := Open(l)
	return e == api.OK && t.Under(code, above)
}

// At returns the codes of a level, ascending.
func At(l api.CodeList, level int) []int {
	t, e := Open(l)
	if e != api.OK {
		return nil
	}
	return t.At(level)
}

// Find returns the code with a Name, -1 if there is none.
func Find(l api.CodeList, name string) int {
	t, e := Open(l)
	if e != api.OK {
		return -1
	}
	return slices.IndexFunc(t.codes, func(c api.Code) bool { return c.Name == name })
}
