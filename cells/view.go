package cells

import (
	"slices"

	"dataenclave/api"
)

// leftOut stands in the place of the group of a category that is left out.
const leftOut = -1

// View returns the error of a space, or api.ErrSpace if a view is not valid for it.
func View(s api.Space, v api.View) api.Errno {
	if e := Check(s); e != api.OK {
		return e
	}
	if len(v.Groups) != len(s.Sizes) {
		return api.ErrSpace
	}
	for i, size := range s.Sizes {
		if len(v.Groups[i]) != size || !numbered(v.Groups[i]) {
			return api.ErrSpace
		}
	}
	return api.OK
}

// numbered reports whether there are groups, and they are numbered in the order in which they first occur.
func numbered(groups []int) bool {
	next := 0
	for _, group := range groups {
		if group < leftOut || group > next {
			return false
		}
		if group == next {
			next++
		}
	}
	return next > 0
}

// sizes returns how many groups each dimension of a view has.
func sizes(v api.View) []int {
	var l []int
	for _, groups := range v.Groups {
		l = append(l, slices.Max(groups)+1)
	}
	return l
}

// Published returns how many published cells a view has.
func Published(s api.Space, v api.View) int {
	if View(s, v) != api.OK {
		return 0
	}
	return product(sizes(v))
}

// Owners returns, for each cell of a space, the published cell of which it is a member, -1 if it is left out.
func Owners(s api.Space, v api.View) ([]int, api.Errno) {
	if e := View(s, v); e != api.OK {
		return nil, e
	}
	owners := make([]int, product(s.Sizes))
	for cell := range owners {
		at := places(s.Sizes, cell)
		for i, groups := range v.Groups {
			at[i] = groups[at[i]]
		}
		owners[cell] = leftOut
		if !slices.Contains(at, leftOut) {
			owners[cell] = number(sizes(v), at)
		}
	}
	return owners, api.OK
}

// Members returns the members of a published cell, ascending.
func Members(s api.Space, v api.View, k int) ([]int, api.Errno) {
	owners, e := Owners(s, v)
	if e != api.OK {
		return nil, e
	}
	if k < 0 || k >= product(sizes(v)) {
		return nil, api.ErrRange
	}
	var l []int
	for cell, owner := range owners {
		if owner == k {
			l = append(l, cell)
		}
	}
	return l, api.OK
}

// Publish returns for each published cell the sum of a table over its members.
func Publish(s api.Space, v api.View, table []int) ([]int, api.Errno) {
	owners, e := Owners(s, v)
	if e != api.OK {
		return nil, e
	}
	if len(table) != len(owners) {
		return nil, api.ErrLength
	}
	if slices.ContainsFunc(table, func(n int) bool { return n < 0 || n > api.MaxValue }) {
		return nil, api.ErrRange
	}
	sums := make([]int, product(sizes(v)))
	for cell, owner := range owners {
		if owner != leftOut {
			sums[owner] += table[cell]
		}
	}
	return sums, api.OK
}

// Finer reports whether a view is finer than another one, or equal.
func Finer(s api.Space, a, b api.View) bool {
	if View(s, a) != api.OK || View(s, b) != api.OK {
		return false
	}
	for i, groups := range a.Groups {
		into := map[int]int{leftOut: leftOut}
		for category, group := range groups {
			other := b.Groups[i][category]
			if before, seen := into[group]; seen && before != other {
				return false
			}
			into[group] = other
		}
	}
	return true
}

// Margins returns the views in which the groups of some dimensions are one, each view once.
func Margins(s api.Space, v api.View) ([]api.View, api.Errno) {
	if e := View(s, v); e != api.OK {
		return nil, e
	}
	seen := map[string]bool{key(v): true}
	var l []api.View
	for set := 1; set < 1<<len(v.Groups); set++ {
		margin := together(v, set)
		if !seen[key(margin)] {
			seen[key(margin)] = true
			l = append(l, margin)
		}
	}
	return l, api.OK
}

// together makes the groups of those dimensions one whose bits are set.
func together(v api.View, set int) api.View {
	var w api.View
	for i, groups := range v.Groups {
		groups = slices.Clone(groups)
		for category := range groups {
			if set>>i&1 == 1 && groups[category] != leftOut {
				groups[category] = 0
			}
		}
		w.Groups = append(w.Groups, groups)
	}
	return w
}

// key returns a text that views of one space share only if they are equal.
func key(v api.View) string {
	var b []byte
	for _, groups := range v.Groups {
		for _, group := range groups {
			b = append(b, byte(group))
		}
	}
	return string(b)
}
