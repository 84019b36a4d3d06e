package pseudonym_test

import (
	"fmt"
	"math"
	"math/big"
	"testing"

	"dataenclave/pseudonym"
)

func want(t *testing.T, name string, got, want any) {
	t.Helper()
	if fmt.Sprint(got) != fmt.Sprint(want) {
		t.Errorf("%s: got %v, want %v", name, got, want)
	}
}

const greatest = 1<<60 - 1

// round follows the text of the chapter with large numbers.
func round(secret, round, half int) int {
	n := func(s string) *big.Int { x, _ := new(big.Int).SetString(s, 10); return x }
	limit := new(big.Int).Lsh(big.NewInt(1), 64)
	h := new(big.Int).Mul(big.NewInt(int64(round)), n("11400714819323198485"))
	h.Add(h, new(big.Int).Mul(big.NewInt(int64(half)), n("14029467366897019727")))
	h.Add(h, big.NewInt(int64(secret))).Mod(h, limit)
	for i := 0; i < 3; i++ {
		h.Xor(h, new(big.Int).Rsh(h, 31))
		h.Mul(h, n("13787848793156543929")).Mod(h, limit)
	}
	return int(h.Rsh(h, 54).Int64())
}

// TestRound is about P12.1.
func TestRound(t *testing.T) {
	for _, secret := range []int{0, 1, 77, 1 << 40, 987654321987654321, greatest} {
		for i := range 8 {
			for _, half := range []int{0, 1, 512, 1000, 1023} {
				got := pseudonym.Round(secret, i, half)
				want(t, fmt.Sprint("round ", secret, " ", i, " ", half), got, round(secret, i, half))
				want(t, "range", 0 <= got && got < 1024, true)
			}
		}
	}
	for _, c := range [][3]int{{-1, 1, 1}, {greatest + 1, 1, 1}, {5, -1, 1}, {5, 8, 1}, {5, 1, -1}, {5, 1, 1024}, {math.MinInt, 1, 1}, {math.MaxInt, math.MaxInt, math.MaxInt}} {
		want(t, fmt.Sprint("no round ", c), pseudonym.Round(c[0], c[1], c[2]), 0)
	}
}

// key follows the text of the chapter.
func key(secret, id int) int {
	left, right := id/1024, id%1024
	for i := 0; i < 8; i++ {
		was := left
		left = right
		right = was ^ round(secret, i, left)
	}
	return left*1024 + right
}

// TestKey is about P12.2.
func TestKey(t *testing.T) {
	for _, secret := range []int{0, 1, 123456789, greatest} {
		for _, id := range []int{0, 1, 2, 1023, 1024, 700000, 1<<20 - 1} {
			k := pseudonym.Key(secret, id)
			want(t, fmt.Sprint("key ", secret, " ", id), k, key(secret, id))
			want(t, fmt.Sprint("id ", secret, " ", id), pseudonym.Id(secret, k), id)
			want(t, "the other way round", pseudonym.Key(secret, pseudonym.Id(secret, id)), id)
		}
	}
	for _, c := range [][2]int{{-1, 5}, {greatest + 1, 5}, {7, -1}, {7, 1 << 20}, {math.MinInt, math.MinInt}, {math.MaxInt, 0}} {
		want(t, fmt.Sprint("no key ", c), pseudonym.Key(c[0], c[1]), -1)
		want(t, fmt.Sprint("no id ", c), pseudonym.Id(c[0], c[1]), -1)
	}
}

// TestPermutation is about P12.2: the keys of all ids are different, and of two projects they are not the same.
func TestPermutation(t *testing.T) {
	seen := make([]bool, 1<<20)
	same := 0
	for id := range 1 << 20 {
		k := pseudonym.Key(42, id)
		if k < 0 || k >= 1<<20 || seen[k] || pseudonym.Id(42, k) != id {
			t.Fatalf("the key %d of %d", k, id)
		}
		seen[k] = true
		if pseudonym.Key(43, id) == k {
			same++
		}
	}
	want(t, "nearly all keys differ", same < 100, true)
}
