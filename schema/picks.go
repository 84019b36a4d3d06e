package schema

import (
	"cmp"
	"slices"

	"dataenclave/api"
)

// Covers reports whether each of some needs has a pick with the same column, and at least its level.
func Covers(picks, needs []api.Pick) bool {
	for _, need := range needs {
		if !slices.ContainsFunc(picks, func(p api.Pick) bool { return p.Column == need.Column && p.Level >= need.Level }) {
			return false
		}
	}
	return true
}

// Needed returns the columns with a level greater than 0, ascending.
func Needed(levels map[int]int) []api.Pick {
	var l []api.Pick
	for column, level := range levels {
		if level > 0 {
			l = append(l, api.Pick{Column: column, Level: level})
		}
	}
	slices.SortFunc(l, func(a, b api.Pick) int { return cmp.Compare(a.Column, b.Column) })
	return l
}
