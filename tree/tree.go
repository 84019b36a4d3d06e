// Package tree measures trees, of conditions or of expressions, that may be larger than they should be.
package tree

// Countdown takes the number of nodes of a tree from a number, and stops below 0, however many there are.
func Countdown[T any](node T, kids func(T) []T, left int) int {
	left--
	for _, kid := range kids(node) {
		if left < 0 {
			return left
		}
		left = Countdown(kid, kids, left)
	}
	return left
}

// Depth returns how deep a tree is: 1 for a node alone.
func Depth[T any](node T, kids func(T) []T) int {
	deepest := 0
	for _, kid := range kids(node) {
		deepest = max(deepest, Depth(kid, kids))
	}
	return deepest + 1
}
