package tree_test

import (
	"testing"

	"dataenclave/tree"
)

// node has so many kids, which have one kid less each.
func kids(n int) []int {
	var l []int
	for range n {
		l = append(l, n-1)
	}
	return l
}

func TestCountdownAndDepth(t *testing.T) {
	// With 3 kids: 1 + 3 + 6 + 6 nodes.
	for left, should := range map[int]int{100: 84, 16: 0, 15: -1, 3: -1, 0: -1} {
		if got := tree.Countdown(3, kids, left); got != should {
			t.Errorf("from %d: %d, want %d", left, got, should)
		}
	}
	for n := range 5 {
		if got := tree.Depth(n, kids); got != n+1 {
			t.Errorf("depth of %d: %d", n, got)
		}
	}
	endless := func(n int) []int { return []int{n, n} }
	if got := tree.Countdown(1, endless, 1000); got != -1 {
		t.Errorf("endless: %d", got)
	}
}
