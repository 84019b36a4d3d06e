package survive_test

import (
	"fmt"
	"math"
	"math/big"
	"math/rand"
	"slices"
	"testing"

	"dataenclave/api"
	"dataenclave/example"
	"dataenclave/survive"
)

func want(t *testing.T, name string, got, want any) {
	t.Helper()
	if fmt.Sprintf("%+v", got) != fmt.Sprintf("%+v", want) {
		t.Errorf("%s: got %+v, want %+v", name, got, want)
	}
}

func frac(num, den int) api.Frac { return api.Frac{Num: num, Den: den} }

// steps makes a life table time by time, with large fractions.
func steps(times []int, events []bool) string {
	var l []string
	survive := big.NewRat(1, 1)
	for time := range 12 {
		risk, happened, left := int64(0), int64(0), int64(0)
		for i, its := range times {
			if its >= time {
				risk++
			}
			if its == time && events[i] {
				happened++
			} else if its == time {
				left++
			}
		}
		if happened+left > 0 {
			survive.Mul(survive, big.NewRat(risk-happened, risk))
			l = append(l, fmt.Sprintf("{Time:%d AtRisk:%d Events:%d Left:%d Survive:{Num:%v Den:%v}}", time, risk, happened, left, survive.Num(), survive.Denom()))
		}
	}
	return fmt.Sprint(l)
}

// TestSteps is about P20.1.
func TestSteps(t *testing.T) {
	l, e := survive.Steps([]int{1, 2, 2}, []bool{true, false, true})
	want(t, "the chapter's example", fmt.Sprint(l, e), fmt.Sprint([]api.CurveStep{{Time: 1, AtRisk: 3, Events: 1, Survive: frac(2, 3)}, {Time: 2, AtRisk: 2, Events: 1, Left: 1, Survive: frac(1, 3)}}, api.OK))
	r := rand.New(rand.NewSource(2))
	for range 300 {
		var times []int
		var events []bool
		for range r.Intn(15) {
			times, events = append(times, r.Intn(12)), append(events, r.Intn(3) > 0)
		}
		before := slices.Clone(times)
		l, e := survive.Steps(times, events)
		want(t, "error", e, api.OK)
		want(t, fmt.Sprint(times, events), fmt.Sprintf("%+v", l), steps(times, events))
		want(t, "they stay", times, before)
	}
}

// people makes n persons with different times, who have the event and leave by turns.
func people(n int) ([]int, []bool) {
	var times []int
	var events []bool
	for i := range n {
		times, events = append(times, i), append(events, i%2 == 0)
	}
	return times, events
}

// TestStepsErrors is about P20.1.
func TestStepsErrors(t *testing.T) {
	many := make([]int, 201)
	for _, c := range []struct {
		name   string
		times  []int
		events []bool
		e      api.Errno
	}{
		{"lengths before the limit", many, make([]bool, 200), api.ErrLength},
		{"fewer times", []int{1}, []bool{true, true}, api.ErrLength},
		{"the limit before the range", append([]int{-1}, many[:200]...), make([]bool, 201), api.ErrLimit},
		{"200 persons", many[:200], make([]bool, 200), api.OK},
		{"below 0", []int{0, -1}, make([]bool, 2), api.ErrRange},
		{"the greatest time", []int{api.MaxMeasure}, make([]bool, 1), api.OK},
		{"a greater time", []int{api.MaxMeasure + 1}, make([]bool, 1), api.ErrRange},
		{"nobody", nil, nil, api.OK},
	} {
		l, e := survive.Steps(c.times, c.events)
		want(t, c.name, e, c.e)
		if e != api.OK {
			want(t, c.name, l, []api.CurveStep{})
		}
	}
	times, events := people(200)
	l, e := survive.Steps(times, events)
	want(t, "too large a fraction", fmt.Sprint(l, e), fmt.Sprint([]api.CurveStep{}, api.ErrOverflow))
	times, events = people(30)
	_, e = survive.Steps(times, events)
	want(t, "not too large a fraction", e, api.OK)
	events = make([]bool, 200)
	for i := range events {
		events[i] = true
	}
	times, _ = people(200)
	l, e = survive.Steps(times, events)
	want(t, "without persons who left", fmt.Sprint(l[49].Survive, l[199].Survive, e), fmt.Sprint(frac(3, 4), frac(0, 1), api.OK))
}

func all() api.Cond { return api.Cond{Op: api.CondAll} }

func between(column, low, high int) api.Cond {
	return api.Cond{Op: api.CondBetween, Column: column, Low: low, High: high}
}

// TestMake is about P20.2.
func TestMake(t *testing.T) {
	s := example.Schema()
	x := example.Extract()
	event, cond := between(4, 500, 5000), between(3, 10, 99)
	l, keys, e := survive.Make(s, x, 5, event, cond)
	var times, of []int
	var events []bool
	for _, row := range example.Rows() {
		if row[3] >= 10 {
			times, events, of = append(times, row[5]), append(events, row[4] >= 500), append(of, row[0])
		}
	}
	should, _ := survive.Steps(times, events)
	want(t, "steps", fmt.Sprint(l, keys, e), fmt.Sprint(should, of, api.OK))
	s.Columns[5].Optional = true
	x.Rows[0] = slices.Clone(x.Rows[0])
	x.Rows[0][5] = api.Missing
	l, keys, e = survive.Make(s, x, 5, event, cond)
	should, _ = survive.Steps(times[1:], events[1:])
	want(t, "a missing time does not count", fmt.Sprint(l, keys, e), fmt.Sprint(should, of[1:], api.OK))
	l, keys, e = survive.Make(s, x, 5, all(), api.Cond{Op: api.CondNot, Kids: []api.Cond{all()}})
	want(t, "no rows", fmt.Sprint(l, keys, e), "[] [] 0")
}

// TestMakeErrors is about P20.2.
func TestMakeErrors(t *testing.T) {
	s := example.Schema()
	short := example.Extract()
	short.Picks, short.Rows = example.Picks(3, 1, 5, 2), nil
	long := api.Extract{Project: "p", Picks: example.Picks(3, 3)}
	s.Columns[3].High = 200
	for i := range 200 {
		long.Rows = append(long.Rows, []int{i, i})
	}
	var odd api.Cond // persons who leave a number at risk that is a prime
	for _, i := range []int{1, 3, 7, 9, 19, 21, 27, 33, 37, 43} {
		c := between(3, i, i)
		if odd.Op == 0 {
			odd = c
		} else {
			odd = api.Cond{Op: api.CondOr, Kids: []api.Cond{odd, c}}
		}
	}
	for _, c := range []struct {
		name        string
		x           api.Extract
		column      int
		event, cond api.Cond
		e           api.Errno
	}{
		{"the extract first", api.Extract{}, 1, all(), all(), api.ErrName},
		{"no measure", short, 1, all(), all(), api.ErrForm},
		{"times that can be less than 0", example.Extract(), 4, all(), all(), api.ErrForm},
		{"a wrong event", short, 5, api.Cond{}, all(), api.ErrForm},
		{"a wrong condition", short, 5, all(), api.Cond{}, api.ErrForm},
		{"a column that is not there", short, 3, all(), all(), api.ErrPlan},
		{"an event that is not known", short, 5, between(3, 10, 99), all(), api.ErrPlan},
		{"what is known", short, 5, between(3, 20, 99), all(), api.OK},
		{"too large a fraction", long, 3, odd, all(), api.ErrOverflow},
	} {
		l, keys, e := survive.Make(s, c.x, c.column, c.event, c.cond)
		want(t, c.name, fmt.Sprint(l, keys, e), fmt.Sprint([]int{}, []int{}, c.e))
	}
	s.Columns[1].Name = "person"
	_, _, e := survive.Make(s, example.Extract(), 5, all(), all())
	want(t, "a wrong schema", e, api.ErrDuplicate)
}

// TestAt is about P20.3.
func TestAt(t *testing.T) {
	l := []api.CurveStep{{Time: 2, Survive: frac(2, 3)}, {Time: 5, Survive: frac(1, 3)}}
	for time, f := range map[int]api.Frac{math.MinInt: frac(1, 1), 1: frac(1, 1), 2: frac(2, 3), 4: frac(2, 3), 5: frac(1, 3), math.MaxInt: frac(1, 3)} {
		want(t, fmt.Sprint("at ", time), survive.At(l, time), f)
	}
	want(t, "without steps", survive.At(nil, 7), frac(1, 1))
	odd := []api.CurveStep{{Time: 5, Survive: frac(9, 9)}, {Time: 1, Survive: frac(5, 0)}, {Time: 7}}
	want(t, "of any steps, the last one", fmt.Sprint(survive.At(odd, 6), survive.At(odd, 7), survive.At(odd, 0)), "{5 0} {0 0} {1 1}")
}
