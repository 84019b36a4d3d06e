package lineage_test

import (
	"fmt"
	"math"
	"math/rand"
	"slices"
	"testing"

	"dataenclave/lineage"
)

func want(t *testing.T, name string, got, want any) {
	t.Helper()
	if fmt.Sprint(got) != fmt.Sprint(want) {
		t.Errorf("%s: got %v, want %v", name, got, want)
	}
}

// TestValidAndOf is about P15.1.
func TestValidAndOf(t *testing.T) {
	for _, c := range []struct {
		l, of []int
		valid bool
	}{
		{nil, nil, true}, {[]int{5}, []int{5}, true}, {[]int{-1, 0, 7}, []int{-1, 0, 7}, true}, {[]int{math.MinInt, math.MaxInt}, []int{math.MinInt, math.MaxInt}, true},
		{[]int{3, 1, 3}, []int{1, 3}, false}, {[]int{3, 3}, []int{3}, false}, {[]int{1, 3, 2}, []int{1, 2, 3}, false}, {[]int{math.MaxInt, math.MinInt}, []int{math.MinInt, math.MaxInt}, false},
	} {
		l := slices.Clone(c.l)
		want(t, fmt.Sprint("valid ", c.l), lineage.Valid(l), c.valid)
		want(t, fmt.Sprint("of ", c.l), lineage.Of(l), c.of)
		want(t, "it stays", l, c.l)
	}
}

// TestSets is about P15.2 and P15.3, for any lists, element by element.
func TestSets(t *testing.T) {
	r := rand.New(rand.NewSource(1))
	for range 500 {
		var a, b []int
		for range r.Intn(6) {
			a = append(a, r.Intn(8)-2)
		}
		for range r.Intn(6) {
			b = append(b, r.Intn(8)-2)
		}
		beforeA, beforeB := slices.Clone(a), slices.Clone(b)
		var union, both, without []int
		within := true
		for k := -3; k < 7; k++ {
			inA, inB := slices.Contains(a, k), slices.Contains(b, k)
			want(t, fmt.Sprint("has ", a, k), lineage.Has(a, k), inA)
			if inA || inB {
				union = append(union, k)
			}
			if inA && inB {
				both = append(both, k)
			}
			if inA && !inB {
				without = append(without, k)
				within = false
			}
		}
		name := fmt.Sprint(a, " and ", b)
		want(t, "union "+name, lineage.Union(a, b), union)
		want(t, "both "+name, lineage.Both(a, b), both)
		want(t, "without "+name, lineage.Without(a, b), without)
		want(t, "within "+name, lineage.Within(a, b), within)
		want(t, "they stay", fmt.Sprint(a, b), fmt.Sprint(beforeA, beforeB))
	}
}

// TestSpareCapacity is about the rule R2.
func TestSpareCapacity(t *testing.T) {
	a := []int{1, 2, 9, 9}[:2]
	lineage.Union(a, []int{5})
	lineage.Without(a, []int{1})
	want(t, "spare capacity", a[:4], []int{1, 2, 9, 9})
}
