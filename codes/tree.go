package codes

import (
	"slices"

	"dataenclave/api"
)

// Tree is a code list that Check accepts, with the level of each code, so that questions about it need no second check.
type Tree struct {
	codes  []api.Code
	levels []int
	leaves []int // of each code some leaf that is the code, or stands below it
	last   int   // the level of the leaves
}

// Open returns the tree of a code list, or the first error of the list.
func Open(l api.CodeList) (Tree, api.Errno) {
	if !Name(l.Name) {
		return Tree{}, api.ErrName
	}
	if len(l.Codes) == 0 {
		return Tree{}, api.ErrList
	}
	if len(l.Codes) > api.MaxCodes {
		return Tree{}, api.ErrLimit
	}
	if e := checkCodes(l.Codes); e != api.OK {
		return Tree{}, e
	}
	levels := levelsOf(l.Codes)
	t := Tree{codes: l.Codes, levels: levels, leaves: leavesOf(l.Codes), last: slices.Max(levels)}
	if !t.even() {
		return Tree{}, api.ErrList
	}
	return t, api.OK
}

func checkCodes(l []api.Code) api.Errno {
	read := map[string]bool{}
	for i, c := range l {
		switch {
		case !Name(c.Name):
			return api.ErrName
		case read[c.Name]:
			return api.ErrDuplicate
		case i == 0 && c.Parent != -1:
			return api.ErrCode
		case i > 0 && (c.Parent < 0 || c.Parent >= i):
			return api.ErrCode
		}
		read[c.Name] = true
	}
	return api.OK
}

// levelsOf goes from the first code on: a parent always comes before its codes.
func levelsOf(l []api.Code) []int {
	levels := make([]int, len(l))
	for i := 1; i < len(l); i++ {
		levels[i] = levels[l[i].Parent] + 1
	}
	return levels
}

// leavesOf goes from the last code back: what stands below a code always comes behind it.
func leavesOf(l []api.Code) []int {
	leaves := make([]int, len(l))
	for i := range leaves {
		leaves[i] = i
	}
	for i := len(l) - 1; i > 0; i-- {
		leaves[l[i].Parent] = leaves[i]
	}
	return leaves
}

// even reports whether all leaves have the same level.
func (t Tree) even() bool {
	for code, leaf := range t.leaves {
		if code == leaf && t.levels[code] != t.last {
			return false
		}
	}
	return true
}

// Levels returns the number of levels.
func (t Tree) Levels() int { return t.last + 1 }

// Has reports whether there is a code.
func (t Tree) Has(code int) bool { return 0 <= code && code < len(t.codes) }

// Leaf reports whether there is a code, and it is a leaf.
func (t Tree) Leaf(code int) bool { return t.Has(code) && t.levels[code] == t.last }

// Level returns the level of a code, -1 without one.
func (t Tree) Level(code int) int {
	if !t.Has(code) {
		return -1
	}
	return t.levels[code]
}

// Some returns some leaf that is a code of a level, or stands below it, and whether there is this code.
func (t Tree) Some(code, level int) (int, bool) {
	if !t.Has(code) || t.levels[code] != level {
		return 0, false
	}
	return t.leaves[code], true
}

// Up returns the code at a level that is a code itself, or stands above it; -1 if there is none.
func (t Tree) Up(code, level int) int {
	if !t.Has(code) || level < 0 || level > t.levels[code] {
		return -1
	}
	for t.levels[code] > level {
		code = t.codes[code].Parent
	}
	return code
}

// Under reports whether a code is another one, or stands below it.
func (t Tree) Under(code, above int) bool {
	return t.Has(code) && t.Has(above) && t.Up(code, t.levels[above]) == above
}

// At returns the codes of a level, ascending.
func (t Tree) At(level int) []int {
	var l []int
	for code, its := range t.levels {
		if its == level {
			l = append(l, code)
		}
	}
	return l
}
