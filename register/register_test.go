package register_test

import (
	"fmt"
	"hash/fnv"
	"math"
	"math/big"
	"math/rand"
	"slices"
	"strings"
	"testing"

	"dataenclave/api"
	"dataenclave/register"
)

func want(t *testing.T, name string, got, want any) {
	t.Helper()
	if fmt.Sprintf("%+v", got) != fmt.Sprintf("%+v", want) {
		t.Errorf("%s: got %+v, want %+v", name, got, want)
	}
}

// TestSum is about P38.1.
func TestSum(t *testing.T) {
	for _, s := range []string{"", "a", "hello\x00\xff", strings.Repeat("long ", 500)} {
		h := fnv.New64a()
		h.Write([]byte(s))
		want(t, "sum of "+s[:min(len(s), 9)], register.Sum([]byte(s)), h.Sum64())
	}
	want(t, "of nothing", register.Sum(nil), uint64(14695981039346656037))
}

// five returns a number modulo 2^40 in five bytes.
func five(n int) []byte {
	x := new(big.Int).Mod(big.NewInt(int64(n)), new(big.Int).Lsh(big.NewInt(1), 40))
	return x.FillBytes(make([]byte, 5))
}

// TestLink is about P38.1.
func TestLink(t *testing.T) {
	for _, x := range []api.Entry{{}, {Number: 1, Before: 0, Kind: 1, Output: 3, Text: "x\n", Link: 77}, {Number: 60, Before: math.MaxUint64 - 5, Kind: 3, Of: 9, Output: 40, Text: "text"}, {Number: -1, Kind: math.MinInt, Of: math.MaxInt, Output: 1<<40 + 5}, {Before: 1 << 63, Text: "\xff"}} {
		b := new(big.Int).SetUint64(x.Before).FillBytes(make([]byte, 8))
		for _, n := range []int{x.Number, x.Kind, x.Of, x.Output} {
			b = append(b, five(n)...)
		}
		want(t, fmt.Sprint(x), register.Link(x), register.Sum(append(b, x.Text...)))
	}
}

// entry is an entry to be added.
type entry struct {
	kind, of, output int
	text             string
}

const release, withdraw, supersede = api.EntryRelease, api.EntryWithdraw, api.EntrySupersede

func add(t *testing.T, entries ...entry) []api.Entry {
	t.Helper()
	var l []api.Entry
	for _, x := range entries {
		var e api.Errno
		l, e = register.Add(l, x.kind, x.of, x.output, x.text)
		want(t, fmt.Sprint("add ", x), e, api.OK)
	}
	return l
}

// some has a release that is superseded twice, one that is withdrawn, and one more.
func some(t *testing.T) []api.Entry {
	return add(t, entry{release, 0, 5, "a\n"}, entry{release, 0, 2, "b\n"}, entry{supersede, 1, 7, "c\n"}, entry{withdraw, 2, 0, ""}, entry{release, 0, 1, ""}, entry{supersede, 3, 40, "d\n"})
}

// TestAdd is about P38.2: what is added, link by link.
func TestAdd(t *testing.T) {
	l := some(t)
	want(t, "check", register.Check(l), api.OK)
	before := uint64(0)
	for i, x := range l {
		want(t, "chain", fmt.Sprint(x.Number, x.Before, x.Link), fmt.Sprint(i+1, before, register.Link(x)))
		want(t, "a beginning", register.Check(l[:i]), api.OK)
		before = x.Link
	}
	want(t, "kinds", fmt.Sprint(l[2].Kind, l[2].Of, l[2].Output, l[2].Text), fmt.Sprint(supersede, 1, 7, "c\n"))
	longer := slices.Grow(l, 3)
	register.Add(longer, release, 0, 9, "")
	want(t, "it stays", fmt.Sprint(longer, longer[:7][6]), fmt.Sprint(l, api.Entry{}))
	two := add(t, entry{release, 0, 1, "x"}, entry{supersede, 1, 2, "y"})
	history, e := register.History(two, 2)
	want(t, "the chapter's example", fmt.Sprint(register.InForce(two), history, e), "[2] [2 1] 0")
}

// many makes n releases and withdrawals.
func many(t *testing.T, n int) []api.Entry {
	var l []entry
	for i := range n {
		if i%2 == 0 {
			l = append(l, entry{release, 0, i/2 + 1, "x"})
		} else {
			l = append(l, entry{withdraw, i, 0, ""})
		}
	}
	return add(t, l...)
}

// TestAddErrors is about P38.2: errors, of which the first one counts, with the register as it is.
func TestAddErrors(t *testing.T) {
	long := strings.Repeat("x", api.MaxRecord+1)
	broken := some(t)
	broken[3].Before++
	full := many(t, 60)
	for i, c := range []struct {
		l []api.Entry
		x entry
		e api.Errno
	}{
		{broken, entry{0, 0, 0, long}, api.ErrChain}, {full, entry{0, 0, 0, long}, api.ErrFull}, {full[:59], entry{0, 0, 0, long}, api.ErrLimit}, {full[:59], entry{withdraw, 59, 0, ""}, api.OK},
		{some(t), entry{0, 0, 0, long[1:]}, api.ErrKind}, {some(t), entry{4, 0, 0, ""}, api.ErrKind}, {some(t), entry{-1, 0, 0, ""}, api.ErrKind},
		{some(t), entry{release, 0, 9, long[1:]}, api.OK}, {some(t), entry{release, 0, 9, long}, api.ErrLimit}, {some(t), entry{release, 1, 9, ""}, api.ErrForm}, {some(t), entry{release, 0, 0, ""}, api.ErrForm}, {some(t), entry{release, 0, 41, ""}, api.ErrForm}, {some(t), entry{release, 0, 39, ""}, api.OK}, {some(t), entry{release, 0, 5, ""}, api.ErrForm}, {some(t), entry{release, 0, 7, ""}, api.ErrForm}, {some(t), entry{release, -1, 9, ""}, api.ErrForm},
		{some(t), entry{withdraw, 6, 0, ""}, api.OK}, {some(t), entry{withdraw, 5, 0, ""}, api.OK}, {some(t), entry{withdraw, 1, 0, ""}, api.ErrWithdrawn}, {some(t), entry{withdraw, 2, 0, ""}, api.ErrWithdrawn}, {some(t), entry{withdraw, 3, 0, ""}, api.ErrWithdrawn}, {some(t), entry{withdraw, 4, 0, ""}, api.ErrWithdrawn}, {some(t), entry{withdraw, 7, 9, "x"}, api.ErrWithdrawn}, {some(t), entry{withdraw, 0, 0, ""}, api.ErrWithdrawn}, {some(t), entry{withdraw, 6, 1, ""}, api.ErrForm}, {some(t), entry{withdraw, 6, 0, "x"}, api.ErrForm},
		{some(t), entry{supersede, 6, 9, "x"}, api.OK}, {some(t), entry{supersede, 3, 0, "x"}, api.ErrWithdrawn}, {some(t), entry{supersede, 0, 9, "x"}, api.ErrWithdrawn}, {some(t), entry{supersede, 6, 40, "x"}, api.ErrForm}, {some(t), entry{supersede, 6, 0, "x"}, api.ErrForm}, {some(t), entry{supersede, 6, 41, "x"}, api.ErrForm},
	} {
		l, e := register.Add(c.l, c.x.kind, c.x.of, c.x.output, c.x.text)
		want(t, fmt.Sprint(i), e, c.e)
		if e != api.OK {
			want(t, fmt.Sprint(i), fmt.Sprint(l), fmt.Sprint(c.l))
		} else {
			want(t, fmt.Sprint(i), register.Check(l), api.OK)
		}
	}
}

// forged is a register of entries that may be wrong, with right links.
func forged(entries ...api.Entry) []api.Entry {
	before := uint64(0)
	for i := range entries {
		entries[i].Before = before
		entries[i].Link = register.Link(entries[i])
		before = entries[i].Link
	}
	return entries
}

// TestCheck is about P38.1: errors, of which the first one counts.
func TestCheck(t *testing.T) {
	long := strings.Repeat("x", api.MaxRecord+1)
	type x = api.Entry
	sixty := many(t, 60)
	for i, c := range []struct {
		l []x
		e api.Errno
	}{
		{nil, api.OK}, {sixty, api.OK}, {append(sixty, x{}), api.ErrLimit},
		{forged(x{Number: 2, Kind: 9}), api.ErrNumber}, {forged(x{Number: 0, Kind: 9}), api.ErrNumber}, {forged(x{Number: 1, Kind: release, Output: 1}, x{Number: 1, Kind: release, Output: 2}), api.ErrNumber},
		{[]x{{Number: 1, Kind: 9, Text: long}}, api.ErrChain}, {forged(x{Number: 1, Kind: 9, Text: long}), api.ErrLimit}, {forged(x{Number: 1, Kind: 9, Of: 5}), api.ErrKind}, {forged(x{Number: 1, Kind: 0}), api.ErrKind},
		{forged(x{Number: 1, Kind: withdraw, Output: 5}), api.ErrWithdrawn}, {forged(x{Number: 1, Kind: supersede, Of: 1}), api.ErrWithdrawn}, {forged(x{Number: 1, Kind: release, Of: 1, Output: 1}), api.ErrForm}, {forged(x{Number: 1, Kind: release}), api.ErrForm},
		{forged(x{Number: 1, Kind: release, Output: 1}, x{Number: 2, Kind: withdraw, Of: 1}, x{Number: 3, Kind: withdraw, Of: 1}), api.ErrWithdrawn}, {forged(x{Number: 1, Kind: release, Output: 1}, x{Number: 2, Kind: release, Output: 1}), api.ErrForm},
		{forged(x{Number: 1, Kind: release, Output: 1}, x{Number: 2, Kind: withdraw, Of: 1}, x{Number: 3, Kind: release, Output: 2}), api.OK},
	} {
		want(t, fmt.Sprint(i), register.Check(c.l), c.e)
	}
	zero := forged(x{Number: 1, Kind: release, Output: 1})
	zero[0].Before = 1
	zero[0].Link = register.Link(zero[0])
	want(t, "something before the first one", register.Check(zero), api.ErrChain)
}

// TestChanged is about P38.1: if an entry is changed, and nothing else, the register is not valid.
func TestChanged(t *testing.T) {
	for i := range some(t) {
		for k, change := range []func(x *api.Entry){
			func(x *api.Entry) { x.Number++ }, func(x *api.Entry) { x.Before++ }, func(x *api.Entry) { x.Kind = x.Kind%3 + 1 }, func(x *api.Entry) { x.Of++ }, func(x *api.Entry) { x.Output++ }, func(x *api.Entry) { x.Text += " " }, func(x *api.Entry) { x.Link++ },
			func(x *api.Entry) { x.Text += "z"; x.Link = register.Link(*x) },
		} {
			l := some(t)
			change(&l[i])
			if k == 7 && i == len(l)-1 {
				want(t, "the last one with another text and a right link", register.Check(l), api.OK)
				continue
			}
			want(t, fmt.Sprint("change ", k, " of ", i), register.Check(l) != api.OK, true)
			want(t, "nothing is in force", register.InForce(l), []int{})
			want(t, "nothing is found", register.Find(l, 1), 0)
			numbers, e := register.History(l, 1)
			want(t, "no history", fmt.Sprint(numbers, e), fmt.Sprint([]int{}, register.Check(l)))
		}
	}
}

// TestInForceAndFind is about P38.2.
func TestInForceAndFind(t *testing.T) {
	l := some(t)
	for n, numbers := range [][]int{nil, {1}, {1, 2}, {2, 3}, {3}, {3, 5}, {5, 6}} {
		want(t, fmt.Sprint("in force behind ", n), register.InForce(l[:n]), numbers)
	}
	for output, number := range map[int]int{5: 1, 2: 2, 7: 3, 1: 5, 40: 6, 0: 0, 3: 0, -1: 0, math.MinInt: 0} {
		want(t, fmt.Sprint("find ", output), register.Find(l, output), number)
	}
}

// TestHistory is about P38.3.
func TestHistory(t *testing.T) {
	l := some(t)
	for number, numbers := range map[int][]int{1: {1}, 2: {2}, 3: {3, 1}, 5: {5}, 6: {6, 3, 1}} {
		got, e := register.History(l, number)
		want(t, fmt.Sprint("history of ", number), fmt.Sprint(got, e), fmt.Sprint(numbers, api.OK))
	}
	for _, number := range []int{0, 4, 7, -1, math.MinInt, math.MaxInt} {
		got, e := register.History(l, number)
		want(t, fmt.Sprint("history of ", number), fmt.Sprint(got, e), fmt.Sprint([]int{}, api.ErrNumber))
	}
}

// TestAnyHistory is about what follows: a register stays valid.
func TestAnyHistory(t *testing.T) {
	r := rand.New(rand.NewSource(1))
	for range 100 {
		var l []api.Entry
		force := map[int]bool{}
		for range 40 {
			x := entry{1 + r.Intn(3), r.Intn(12), r.Intn(12), "x"}
			if x.kind == withdraw {
				x.text, x.output = "", 0
			}
			if x.kind == release {
				x.of = 0
			}
			next, e := register.Add(l, x.kind, x.of, x.output, x.text)
			if e == api.OK {
				delete(force, x.of)
				if x.kind != withdraw {
					force[len(next)] = true
				}
			}
			l = next
			want(t, "valid", register.Check(l), api.OK)
			var numbers []int
			for n := range 41 {
				if force[n] {
					numbers = append(numbers, n)
				}
			}
			want(t, "in force", register.InForce(l), numbers)
		}
	}
}
