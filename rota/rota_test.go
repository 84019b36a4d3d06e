package rota_test

import (
	"fmt"
	"math"
	"math/rand"
	"slices"
	"testing"

	"dataenclave/api"
	"dataenclave/rota"
)

func want(t *testing.T, name string, got, want any) {
	t.Helper()
	if fmt.Sprint(got) != fmt.Sprint(want) {
		t.Errorf("%s: got %v, want %v", name, got, want)
	}
}

func shift(person string, from, until int) api.Shift {
	return api.Shift{Person: person, From: from, Until: until}
}

func two() []api.Shift { return []api.Shift{shift("ann", 0, 10), shift("bob", 5, 15)} }

func many(n int) []api.Shift {
	var l []api.Shift
	for i := range n {
		l = append(l, shift("ann", i, i+1))
	}
	return l
}

// wrong are rotas that are not valid, with their errors.
func wrong() map[api.Errno][][]api.Shift {
	return map[api.Errno][][]api.Shift{
		api.ErrLimit: {append(many(60), shift("", 9, 1))},
		api.ErrName:  {{shift("", 5, 1)}, {shift("Ann", 0, 1)}, {shift("ann", 5, 6), shift("to", 1, 1)}},
		api.ErrTime:  {{shift("ann", -1, 5)}, {shift("ann", 5, 5)}, {shift("ann", 5, 4)}, {shift("ann", 0, api.MaxTime+1)}, {shift("ann", 5, 9), shift("ann", 5, 1)}, {shift("ann", math.MinInt, math.MaxInt)}},
		api.ErrForm:  {{shift("ann", 5, 9), shift("bob", 4, 9)}, {shift("bob", 5, 9), shift("ann", 5, 9)}, {shift("ann", 5, 9), shift("ann", 5, 9)}},
		api.ErrTwice: {{shift("ann", 5, 9), shift("ann", 8, 12)}, {shift("ann", 5, 20), shift("bob", 6, 9), shift("ann", 7, 8), shift("cyd", 1, 1)}, {shift("ann", 5, 9), shift("bob", 5, 9), shift("ann", 6, 7)}},
	}
}

// TestCheck is about P36.1.
func TestCheck(t *testing.T) {
	for i, l := range [][]api.Shift{nil, two(), many(60), {shift("ann", 0, api.MaxTime)}, {shift("ann", 5, 9), shift("bob", 5, 9), shift("ann", 9, 10)}, {shift("ann", 5, 9), shift("bob", 5, 6), shift("bob", 6, 7), shift("cyd", 6, 7)}} {
		want(t, fmt.Sprint(i), rota.Check(l), api.OK)
	}
	for e, lists := range wrong() {
		for _, l := range lists {
			want(t, fmt.Sprint(l), rota.Check(l), e)
			want(t, "nobody", rota.On(l, l[0].From), []string{})
			want(t, "no duty", rota.Duty(l, l[0].Person, l[0].From), false)
			same, also := rota.Add(l, shift("", 0, 0))
			want(t, "add", fmt.Sprint(same, also), fmt.Sprint(l, e))
			pairs, also := rota.Pairs(l, 5, 1)
			want(t, "pairs", fmt.Sprint(pairs, also), fmt.Sprint([]int{}, e))
			time, found, also := rota.Next(l, "", -1)
			want(t, "next", fmt.Sprint(time, found, also), fmt.Sprint(0, false, e))
		}
	}
}

// TestOn is about P36.1.
func TestOn(t *testing.T) {
	l := []api.Shift{shift("cyd", 0, 10), shift("bob", 3, 6), shift("ann", 5, 8), shift("bob", 6, 7)}
	for time, people := range map[int][]string{math.MinInt: nil, -1: nil, 0: {"cyd"}, 2: {"cyd"}, 3: {"bob", "cyd"}, 5: {"ann", "bob", "cyd"}, 6: {"ann", "bob", "cyd"}, 7: {"ann", "cyd"}, 8: {"cyd"}, 9: {"cyd"}, 10: nil, math.MaxInt: nil} {
		want(t, fmt.Sprint("on at ", time), rota.On(l, time), people)
		for _, person := range []string{"ann", "bob", "cyd", "dan", ""} {
			want(t, fmt.Sprint(person, " at ", time), rota.Duty(l, person, time), slices.Contains(people, person))
		}
	}
}

// TestAdd is about P36.2.
func TestAdd(t *testing.T) {
	l := slices.Grow(two(), 5)
	for _, c := range []struct {
		x     api.Shift
		place int
		e     api.Errno
	}{
		{shift("", 5, 1), 0, api.ErrName}, {shift("ann", 5, 5), 0, api.ErrTime}, {shift("ann", -1, 5), 0, api.ErrTime}, {shift("ann", 5, api.MaxTime+1), 0, api.ErrTime},
		{shift("ann", 9, 11), 0, api.ErrTwice}, {shift("bob", 0, 6), 0, api.ErrTwice}, {shift("bob", 0, 99), 0, api.ErrTwice}, {shift("bob", 6, 7), 0, api.ErrTwice}, {shift("ann", 0, 10), 0, api.ErrTwice},
		{shift("ann", 10, 11), 2, api.OK}, {shift("bob", 0, 5), 1, api.OK}, {shift("aaa", 0, 99), 0, api.OK}, {shift("cyd", 5, 6), 2, api.OK}, {shift("aaa", 5, 6), 1, api.OK},
	} {
		got, e := rota.Add(l, c.x)
		should := two()
		if c.e == api.OK {
			should = slices.Insert(should, c.place, c.x)
		}
		want(t, fmt.Sprint(c.x), fmt.Sprint(got, e), fmt.Sprint(should, c.e))
		want(t, "it stays", fmt.Sprint(l, l[:3][2]), fmt.Sprint(two(), api.Shift{}))
	}
	_, e := rota.Add(many(60), shift("ann", 0, 5))
	want(t, "twice before full", e, api.ErrTwice)
	_, e = rota.Add(many(60), shift("bob", 0, 5))
	want(t, "full", e, api.ErrLimit)
	_, e = rota.Add(many(59), shift("bob", 0, 5))
	want(t, "just not full", e, api.OK)
}

// TestAnyOrder is about P36.2: adding shifts in any order makes the same rota.
func TestAnyOrder(t *testing.T) {
	r := rand.New(rand.NewSource(1))
	for range 50 {
		var shifts, first []api.Shift
		for i := range 8 {
			x := shift(string(rune('a'+r.Intn(4))), r.Intn(30), 31+i)
			if l, e := rota.Add(first, shift(x.Person, x.From, x.From+1+r.Intn(5))); e == api.OK {
				for _, y := range l {
					if !slices.Contains(first, y) {
						shifts = append(shifts, y)
					}
				}
				first = l
			}
		}
		var l []api.Shift
		for _, i := range r.Perm(len(shifts)) {
			l, _ = rota.Add(l, shifts[i])
		}
		want(t, "the same", l, first)
		want(t, "valid", rota.Check(l), api.OK)
	}
}

// random makes a rota within 40 minutes.
func random(r *rand.Rand) []api.Shift {
	var l []api.Shift
	for range r.Intn(9) {
		from := r.Intn(35)
		l, _ = rota.Add(l, shift(string(rune('a'+r.Intn(4))), from, from+1+r.Intn(9)))
	}
	return l
}

// TestPairs is about P36.3, minute by minute.
func TestPairs(t *testing.T) {
	pairs, e := rota.Pairs(two(), 0, 20)
	want(t, "the chapter's example", fmt.Sprint(pairs, e), "[0 1 5 2 10 1 15 0] 0")
	r := rand.New(rand.NewSource(2))
	for range 300 {
		l := random(r)
		from := r.Intn(45)
		until := from + 1 + r.Intn(20)
		var should []int
		for time := from; time < until; time++ {
			n, before := len(rota.On(l, time)), 0
			if time > from {
				before = len(rota.On(l, time-1))
			}
			if n != before {
				should = append(should, time, n)
			}
		}
		pairs, e := rota.Pairs(l, from, until)
		want(t, fmt.Sprint(l, from, until), fmt.Sprint(pairs, e), fmt.Sprint(should, api.OK))
	}
	for _, c := range [][2]int{{-1, 5}, {5, 5}, {6, 5}, {0, api.MaxTime + 1}, {math.MinInt, math.MaxInt}, {api.MaxTime, api.MaxTime}} {
		pairs, e := rota.Pairs(two(), c[0], c[1])
		want(t, fmt.Sprint(c), fmt.Sprint(pairs, e), fmt.Sprint([]int{}, api.ErrTime))
	}
	pairs, e = rota.Pairs(two(), 7, api.MaxTime)
	want(t, "to the end", fmt.Sprint(pairs, e), "[7 2 10 1 15 0] 0")
	same := []api.Shift{shift("ann", 0, 5), shift("bob", 5, 9)}
	pairs, e = rota.Pairs(same, 0, 20)
	want(t, "an exchange changes nothing", fmt.Sprint(pairs, e), "[0 1 9 0] 0")
}

// TestNext is about P36.3, minute by minute.
func TestNext(t *testing.T) {
	r := rand.New(rand.NewSource(3))
	found := 0
	for range 300 {
		l := random(r)
		time := r.Intn(45)
		for _, researcher := range []string{"a", "b", "z", ""} {
			should := fmt.Sprint(0, false, api.OK)
			for at := 60; at >= time; at-- {
				others := slices.DeleteFunc(rota.On(l, at), func(p string) bool { return p == researcher })
				if len(others) >= 2 {
					should = fmt.Sprint(at, true, api.OK)
				}
			}
			at, ok, e := rota.Next(l, researcher, time)
			want(t, fmt.Sprint(l, researcher, time), fmt.Sprint(at, ok, e), should)
			if ok {
				found++
			}
		}
	}
	want(t, "some are found", found > 100, true)
	for _, c := range []struct {
		researcher string
		time, at   int
		ok         bool
		e          api.Errno
	}{{"cyd", 0, 5, true, 0}, {"bob", 0, 0, false, 0}, {"ann", 0, 0, false, 0}, {"cyd", 9, 9, true, 0}, {"cyd", 10, 0, false, 0}, {"cyd", api.MaxTime, 0, false, 0}, {"cyd", -1, 0, false, api.ErrTime}, {"cyd", api.MaxTime + 1, 0, false, api.ErrTime}} {
		at, ok, e := rota.Next(two(), c.researcher, c.time)
		want(t, fmt.Sprint(c), fmt.Sprint(at, ok, e), fmt.Sprint(c.at, c.ok, c.e))
	}
}
