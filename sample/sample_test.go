package sample_test

import (
	"fmt"
	"math"
	"math/big"
	"testing"

	"dataenclave/api"
	"dataenclave/sample"
)

func want(t *testing.T, name string, got, want any) {
	t.Helper()
	if fmt.Sprint(got) != fmt.Sprint(want) {
		t.Errorf("%s: got %v, want %v", name, got, want)
	}
}

func of(part, of, seed int) api.Sample { return api.Sample{Part: part, Of: of, Seed: seed} }

// TestCheck is about P11.1.
func TestCheck(t *testing.T) {
	for _, x := range []api.Sample{of(1, 1, 0), of(1, api.MaxPart, api.MaxSeed), of(api.MaxPart, api.MaxPart, 5), of(3, 7, 1)} {
		want(t, fmt.Sprint(x), sample.Check(x), api.OK)
		want(t, "in", len(sample.Chosen(x, people())) > 0, true)
	}
	for _, x := range []api.Sample{{}, of(0, 1, 0), of(-1, 1, 0), of(2, 1, 0), of(1, 0, 0), of(0, 0, 0), of(-2, -1, 0), of(1, api.MaxPart+1, 0), of(1, 1, -1), of(1, 1, api.MaxSeed+1), of(math.MinInt, math.MinInt, 0)} {
		want(t, fmt.Sprint(x), sample.Check(x), api.ErrRange)
		want(t, "nobody", sample.Chosen(x, people()), []int{})
	}
}

func people() []int {
	var l []int
	for id := 1; id <= 3000; id++ {
		l = append(l, id)
	}
	return l
}

// draw follows the text of the chapter with large numbers.
func draw(seed, id int) int {
	n := func(s string) *big.Int { x, _ := new(big.Int).SetString(s, 10); return x }
	limit := new(big.Int).Lsh(big.NewInt(1), 64)
	h := new(big.Int).Mul(big.NewInt(int64(seed)), n("2654435761"))
	h.Add(h, new(big.Int).Mul(big.NewInt(int64(id)), n("40503")))
	h.Add(h, n("97")).Mod(h, limit)
	for i := 0; i < 3; i++ {
		h.Mul(h, n("6364136223846793005")).Add(h, n("1442695040888963407")).Mod(h, limit)
		h.Xor(h, new(big.Int).Rsh(h, 29))
	}
	return int(h.Rsh(h, 32).Int64())
}

// TestDraw is about P11.2.
func TestDraw(t *testing.T) {
	for _, seed := range []int{0, 1, 7, 1 << 20, 123456789012, api.MaxSeed - 1, api.MaxSeed} {
		for _, id := range []int{0, 1, 2, 999, 1 << 19, api.MaxId} {
			got := sample.Draw(seed, id)
			want(t, fmt.Sprint("draw ", seed, " ", id), got, draw(seed, id))
			want(t, "range", 0 <= got && got < 1<<32, true)
		}
	}
}

// TestIn is about P11.3.
func TestIn(t *testing.T) {
	x := of(3, 7, 12345)
	var l []int
	for _, id := range people() {
		in := draw(12345, id)%7 < 3
		want(t, fmt.Sprint("in ", id), sample.In(x, id), in)
		if in {
			l = append(l, id)
		}
	}
	want(t, "chosen", sample.Chosen(x, people()), l)
	everybody := of(7, 7, 5)
	for id, is := range map[int]bool{0: false, -1: false, 1: true, api.MaxId: true, api.MaxId + 1: false, math.MinInt: false, math.MaxInt: false} {
		want(t, fmt.Sprint("everybody ", id), sample.In(everybody, id), is)
	}
	want(t, "in their order", sample.Chosen(everybody, []int{5, 0, 2, 5, -1, api.MaxId + 1, 9}), []int{5, 2, 5, 9})
	want(t, "nobody", sample.Chosen(everybody, nil), []int{})
}

// TestGreaterPart is about P11.3: with a greater part nobody leaves the sample.
func TestGreaterPart(t *testing.T) {
	for part := 1; part < 20; part++ {
		for _, id := range sample.Chosen(of(part, 20, 3), people()) {
			want(t, "stays", sample.In(of(part+1, 20, 3), id), true)
		}
	}
}
