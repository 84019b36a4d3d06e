package codes_test

import (
	"fmt"
	"strings"
	"testing"

	"dataenclave/api"
	"dataenclave/codes"
)

func want(t *testing.T, name string, got, want any) {
	t.Helper()
	if fmt.Sprintf("%+v", got) != fmt.Sprintf("%+v", want) {
		t.Errorf("%s: got %+v, want %+v", name, got, want)
	}
}

// list makes a list with the codes a, b, c and so on below the given parents.
func list(parents ...int) api.CodeList {
	l := api.CodeList{Name: "places"}
	for i, p := range parents {
		l.Codes = append(l.Codes, api.Code{Name: fmt.Sprintf("c%d", i), Parent: p})
	}
	return l
}

// example is the list of the chapter's example: 3 and 4 stand below 1, 5 below 2.
func example() api.CodeList { return list(-1, 0, 0, 1, 1, 2) }

// wrong are lists that Check refuses, some of them with codes that a careless search would find.
func wrong() []api.CodeList {
	bad := example()
	bad.Name = "Places"
	uneven := list(-1, 0, 0, 1)
	return []api.CodeList{bad, uneven, {Name: "l"}, list(0, 0, 0), list(-1, 1), list(-1, 0, 3, 1)}
}

// TestName is about P1.1: the form of names.
func TestName(t *testing.T) {
	for _, s := range []string{"a", "z", "a0", "a_", "a9_z", "alla", "al", "o", "onn", strings.Repeat("a", api.MaxName)} {
		want(t, s, codes.Name(s), true)
	}
	for _, s := range []string{"", "A", "aA", "0", "0a", "_", "_a", "a b", " a", "a ", "a-", "a/", "a:", "a`", "a{", "a@", "a[", "é", "aé", "a\x00", "a\xff", "a\n", strings.Repeat("a", api.MaxName+1)} {
		want(t, s, codes.Name(s), false)
	}
}

// TestNameReservedWords is about P1.1: words that are no names.
func TestNameReservedWords(t *testing.T) {
	for _, s := range strings.Fields("all and event from missing not on or to under where") {
		want(t, s, codes.Name(s), false)
		want(t, s+"s", codes.Name(s+"s"), true)
		want(t, s[:len(s)-1], codes.Name(s[:len(s)-1]), true)
	}
	for _, s := range []string{"by", "in", "sum", "of", "seed", "na", "row"} {
		want(t, s, codes.Name(s), true)
	}
}

// TestCheck is about P1.1: each error of Check.
func TestCheck(t *testing.T) {
	long := make([]int, api.MaxCodes)
	long[0] = -1
	for _, c := range []struct {
		name string
		l    api.CodeList
		e    api.Errno
	}{
		{"the example", example(), api.OK},
		{"one code", list(-1), api.OK},
		{"a chain", list(-1, 0, 1, 2), api.OK},
		{"as many as there can be", list(long...), api.OK},
		{"too many", list(append(long, 0)...), api.ErrLimit},
		{"no code", list(), api.ErrList},
		{"a first code below itself", list(0), api.ErrCode},
		{"a first code below none", list(-2), api.ErrCode},
		{"a second root", list(-1, 0, -1), api.ErrCode},
		{"a code below itself", list(-1, 0, 2), api.ErrCode},
		{"a code below a later one", list(-1, 2, 0), api.ErrCode},
		{"a leaf that is too high", list(-1, 0, 0, 1), api.ErrList},
		{"a leaf that is too low", list(-1, 0, 0, 1, 2, 4), api.ErrList},
	} {
		want(t, c.name, codes.Check(c.l), c.e)
	}
}

// TestCheckOrder is about P1.1: lists with several errors, of which the first one counts.
func TestCheckOrder(t *testing.T) {
	many := list(make([]int, api.MaxCodes+1)...)
	change := func(l api.CodeList, code int, name string) api.CodeList {
		l.Codes[code].Name = name
		return l
	}
	want(t, "the name before the codes", codes.Check(api.CodeList{Name: "on"}), api.ErrName)
	want(t, "the limit before the codes", codes.Check(many), api.ErrLimit)
	want(t, "the name before the limit", codes.Check(api.CodeList{Codes: many.Codes}), api.ErrName)
	want(t, "the name before the parent", codes.Check(change(list(-1, 5), 1, "")), api.ErrName)
	want(t, "twice before the parent", codes.Check(change(list(-1, 5), 1, "c0")), api.ErrDuplicate)
	want(t, "the first code before the second", codes.Check(change(list(-1, 5, 0), 2, "all")), api.ErrCode)
	want(t, "a code before the levels", codes.Check(change(list(-1, 0, 0, 1, 3), 4, "c2")), api.ErrDuplicate)
	want(t, "the list may have a name of a code", codes.Check(change(list(-1, 0), 1, "places")), api.OK)
}

// TestLevels is about P1.2.
func TestLevels(t *testing.T) {
	want(t, "example", codes.Levels(example()), 3)
	want(t, "one code", codes.Levels(list(-1)), 1)
	want(t, "a chain", codes.Levels(list(-1, 0, 1, 2)), 4)
	for code, level := range []int{0, 1, 1, 2, 2, 2} {
		want(t, "level", codes.Level(example(), code), level)
	}
	want(t, "no code", codes.Level(example(), 6), -1)
	want(t, "no code", codes.Level(example(), -1), -1)
	for _, l := range wrong() {
		want(t, "a wrong list", []int{codes.Levels(l), codes.Level(l, 0), codes.Level(l, 1)}, []int{-1, -1, -1})
	}
}

// TestUp is about P1.3.
func TestUp(t *testing.T) {
	for code, above := range [][]int{{0}, {0, 1}, {0, 2}, {0, 1, 3}, {0, 1, 4}, {0, 2, 5}} {
		for level := range 4 {
			up := -1
			if level < len(above) {
				up = above[level]
			}
			want(t, fmt.Sprint("up of ", code, " to ", level), codes.Up(example(), code, level), up)
		}
	}
	for _, a := range [][2]int{{-1, 0}, {6, 0}, {3, -1}, {3, 3}, {0, -1}, {-1, -1}} {
		want(t, fmt.Sprint("none", a), codes.Up(example(), a[0], a[1]), -1)
	}
	for _, l := range wrong() {
		want(t, "a wrong list", codes.Up(l, 0, 0), -1)
		want(t, "a wrong list", codes.Up(l, 1, 0), -1)
	}
}

// TestUnder is about P1.3.
func TestUnder(t *testing.T) {
	below := map[[2]int]bool{{1, 0}: true, {2, 0}: true, {3, 0}: true, {4, 0}: true, {5, 0}: true, {3, 1}: true, {4, 1}: true, {5, 2}: true}
	for code := -1; code <= 6; code++ {
		for above := -1; above <= 6; above++ {
			is := below[[2]int{code, above}] || code == above && 0 <= code && code < 6
			want(t, fmt.Sprint(code, " under ", above), codes.Under(example(), code, above), is)
		}
	}
	for _, l := range wrong() {
		want(t, "a wrong list", codes.Under(l, 0, 0), false)
	}
}

// TestAt is about P1.4.
func TestAt(t *testing.T) {
	for level, at := range [][]int{{0}, {1, 2}, {3, 4, 5}, {}} {
		want(t, "at", codes.At(example(), level), at)
	}
	want(t, "no level", codes.At(example(), -1), []int{})
	want(t, "codes of a level that do not stand together", codes.At(list(-1, 0, 1, 0, 3), 1), []int{1, 3})
	for _, l := range wrong() {
		want(t, "a wrong list", codes.At(l, 0), []int{})
	}
}

// TestFind is about P1.4.
func TestFind(t *testing.T) {
	for i := range 6 {
		want(t, "find", codes.Find(example(), fmt.Sprintf("c%d", i)), i)
	}
	for _, s := range []string{"c6", "", "c", "places"} {
		want(t, "none", codes.Find(example(), s), -1)
	}
	for _, l := range wrong() {
		want(t, "a wrong list", codes.Find(l, "c0"), -1)
	}
}

// TestUpOfUp is about P1.3 and P1.4: from a finer level one can always go on to a coarser one, and that the codes of a level divide the leaves.
func TestUpOfUp(t *testing.T) {
	l := list(-1, 0, 0, 2, 1, 2, 4, 3, 5, 5)
	want(t, "right", codes.Check(l), api.OK)
	for _, leaf := range codes.At(l, 3) {
		for fine := range 4 {
			above := 0
			for _, code := range codes.At(l, fine) {
				if codes.Under(l, leaf, code) {
					above++
				}
			}
			want(t, "codes above a leaf", above, 1)
			for coarse := range fine + 1 {
				want(t, "up of up", codes.Up(l, codes.Up(l, leaf, fine), coarse), codes.Up(l, leaf, coarse))
			}
		}
	}
}

// TestArgumentsStay is about the rule R2.
func TestArgumentsStay(t *testing.T) {
	l := example()
	codes.Check(l)
	codes.At(l, 1)
	codes.Find(l, "c3")
	want(t, "the list", l, example())
}
