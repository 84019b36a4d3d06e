package desk_test

import (
	"fmt"
	"math"
	"math/rand"
	"slices"
	"strings"
	"testing"

	"dataenclave/api"
	"dataenclave/desk"
)

func want(t *testing.T, name string, got, want any) {
	t.Helper()
	if fmt.Sprintf("%+v", got) != fmt.Sprintf("%+v", want) {
		t.Errorf("%s: got %+v, want %+v", name, got, want)
	}
}

const deadline = 20

// rota has ann from 0 to 10, bob from 5 to 15 and cyd, a researcher, all the time.
func rota() []api.Shift {
	return []api.Shift{{Person: "ann", From: 0, Until: 10}, {Person: "cyd", From: 0, Until: 99}, {Person: "bob", From: 5, Until: 15}, {Person: "dan", From: 90, Until: api.MaxTime}}
}

func output(number, state int, signatures ...api.Signature) api.Output {
	return api.Output{Number: number, Project: "p", Researcher: "cyd", Text: "x\n", State: state, Signatures: signatures}
}

func by(person string, time int) api.Signature { return api.Signature{Person: person, Time: time} }

// each is a desk with outputs in all states.
func each() []api.Output {
	return []api.Output{
		output(1, api.OutputPending), output(2, api.OutputSigned, by("ann", 3)), output(3, api.OutputCleared, by("ann", 3), by("bob", 7)), output(4, api.OutputReleased, by("bob", 8), by("ann", 8)),
		output(5, api.OutputRefused), output(6, api.OutputRefused, by("bob", 14)), output(7, api.OutputExpired), output(8, api.OutputExpired, by("ann", 0)),
	}
}

// TestCheck is about P37.1: states and signatures.
func TestCheck(t *testing.T) {
	want(t, "each", desk.Check(each(), rota(), deadline), api.OK)
	want(t, "nothing", desk.Check(nil, nil, 1), api.OK)
	a, b := by("ann", 3), by("bob", 7)
	for state := 1; state <= 6; state++ {
		for n, fits := range []string{"145", "245", "36"} {
			x := output(1, state, []api.Signature{a, b}[:n]...)
			e := api.ErrState
			if strings.Contains(fits, fmt.Sprint(state)) {
				e = api.OK
			}
			want(t, fmt.Sprint("state ", state, " with ", n), desk.Check([]api.Output{x}, rota(), deadline), e)
		}
	}
	for i, c := range []struct {
		x        api.Output
		deadline int
		e        api.Errno
	}{
		{output(1, 3, b, a), 20, api.ErrState}, {output(1, 3, by("ann", 7), b), 20, api.OK}, {output(1, 3, a, by("ann", 4)), 20, api.ErrState}, {output(1, 3, a, by("cyd", 4)), 20, api.ErrState}, {output(1, 2, by("cyd", 4)), 20, api.ErrState},
		{output(1, 2, by("bob", 4)), 20, api.ErrState}, {output(1, 2, by("bob", 15)), 20, api.ErrState}, {output(1, 2, by("bob", 14)), 20, api.OK}, {output(1, 2, by("eve", 4)), 20, api.ErrState},
		{output(1, 2, by("ann", 9)), 10, api.OK}, {output(1, 2, by("ann", 9)), 9, api.ErrState}, {output(1, 5, by("ann", 9)), 9, api.ErrState}, {output(1, 4, by("bob", 4)), 20, api.ErrState},
		{api.Output{Number: 1, Project: "p", Researcher: "cyd", Time: 5, State: 2, Signatures: []api.Signature{by("ann", 4)}}, 20, api.ErrState}, {api.Output{Number: 1, Project: "p", Researcher: "cyd", Time: 5, State: 2, Signatures: []api.Signature{by("ann", 5)}}, 20, api.OK},
		{output(2, 9), 20, api.ErrForm}, {output(2, 1, a, b, a), 20, api.ErrForm}, {output(2, 3), 20, api.ErrNumber}, {output(2, 1), 20, api.ErrNumber},
	} {
		want(t, fmt.Sprint(i), desk.Check([]api.Output{c.x}, rota(), c.deadline), c.e)
	}
	want(t, "two with one number", desk.Check([]api.Output{output(1, 1), output(1, 1)}, rota(), deadline), api.ErrNumber)
}

// calls returns the errors of all functions for a desk.
func calls(l []api.Output, rota []api.Shift, deadline int) []api.Errno {
	e := []api.Errno{desk.Check(l, rota, deadline)}
	a, b := desk.Submit(l, rota, deadline, api.Output{})
	c, d := desk.Sign(l, rota, deadline, -1, "", -1, "")
	f, g := desk.Refuse(l, rota, deadline, -1, "", -1)
	h, n, i := desk.Expire(l, rota, deadline, -1)
	j, k := desk.Release(l, rota, deadline, -1)
	for _, same := range [][]api.Output{a, c, f, h, j} {
		if fmt.Sprint(same) != fmt.Sprint(l) || len(n) > 0 {
			e = append(e, -1)
		}
	}
	return append(e, b, d, g, i, k)
}

// TestDeskErrors is about P37.1 to P37.4: errors of desks, of which the first one counts.
func TestDeskErrors(t *testing.T) {
	var many []api.Output
	for i := range 40 {
		many = append(many, output(i+1, 1))
	}
	for i, c := range []struct {
		l        []api.Output
		rota     []api.Shift
		deadline int
		e        api.Errno
	}{
		{many, []api.Shift{{}}, 0, api.ErrRange}, {many, []api.Shift{{}}, -1, api.ErrRange}, {many, []api.Shift{{}}, api.MaxDeadline + 1, api.ErrRange},
		{append(many, output(99, 1)), []api.Shift{{}}, 1, api.ErrName}, {append(many, output(99, 9)), nil, api.MaxDeadline, api.ErrLimit},
		{[]api.Output{output(1, 1), output(3, 0), output(9, 9)}, nil, 20, api.ErrForm}, {[]api.Output{output(2, 2)}, nil, 20, api.ErrNumber}, {[]api.Output{output(1, 2), output(9, 9)}, nil, 20, api.ErrState},
	} {
		want(t, fmt.Sprint(i), calls(c.l, c.rota, c.deadline), []api.Errno{c.e, c.e, c.e, c.e, c.e, c.e})
	}
	want(t, "as many as there can be", calls(many, nil, api.MaxDeadline)[0], api.OK)
}

// TestSubmit is about P37.2.
func TestSubmit(t *testing.T) {
	l := slices.Grow(each(), 4)
	got, e := desk.Submit(l, rota(), deadline, output(9, api.OutputReleased, by("ann", 99), by("ann", 99), by("", -1)))
	want(t, "submit", fmt.Sprint(got, e), fmt.Sprint(append(each(), output(9, 1)), api.OK))
	want(t, "it stays", fmt.Sprint(l, l[:9][8]), fmt.Sprint(each(), api.Output{}))
	for _, c := range []struct {
		x api.Output
		e api.Errno
	}{{output(8, 1), api.ErrNumber}, {output(10, 1), api.ErrNumber}, {output(0, 1), api.ErrForm}, {api.Output{Number: 10, Project: "p"}, api.ErrForm}, {output(9, 0), api.OK}} {
		got, e := desk.Submit(each(), rota(), deadline, c.x)
		want(t, fmt.Sprint(c.x), fmt.Sprint(len(got), e), fmt.Sprint(map[bool]int{true: 9, false: 8}[c.e == api.OK], c.e))
	}
}

// TestSign is about P37.3: the example of the chapter, and what can be wrong.
func TestSign(t *testing.T) {
	l, e := desk.Submit(nil, rota(), deadline, output(1, 0))
	want(t, "submit", e, api.OK)
	_, e = desk.Sign(l, rota(), deadline, 1, "bob", 3, "x\n")
	want(t, "bob at 3", e, api.ErrDuty)
	l, e = desk.Sign(l, rota(), deadline, 1, "ann", 3, "x\n")
	want(t, "ann at 3", fmt.Sprint(l, e), fmt.Sprint([]api.Output{output(1, api.OutputSigned, by("ann", 3))}, api.OK))
	l, e = desk.Sign(l, rota(), deadline, 1, "bob", 7, "x\n")
	want(t, "bob at 7", fmt.Sprint(l, e), fmt.Sprint([]api.Output{output(1, api.OutputCleared, by("ann", 3), by("bob", 7))}, api.OK))
	l, e = desk.Release(l, rota(), deadline, 1)
	want(t, "release", fmt.Sprint(l, e), fmt.Sprint([]api.Output{output(1, api.OutputReleased, by("ann", 3), by("bob", 7))}, api.OK))
	late := []api.Output{{Number: 1, Project: "p", Researcher: "cyd", Time: 85, State: 1, Text: "x\n"}}
	for _, c := range []struct {
		l            []api.Output
		number       int
		person       string
		time         int
		text         string
		sign, refuse api.Errno
	}{
		{each(), 0, "", -1, "", api.ErrNumber, api.ErrNumber}, {each(), 9, "", -1, "", api.ErrNumber, api.ErrNumber}, {each(), math.MinInt, "", -1, "", api.ErrNumber, api.ErrNumber},
		{each(), 3, "", -1, "", api.ErrState, api.ErrState}, {each(), 4, "", -1, "", api.ErrState, api.ErrState}, {each(), 5, "", -1, "", api.ErrState, api.ErrState}, {each(), 7, "", -1, "", api.ErrState, api.ErrState},
		{each(), 1, "", -1, "", api.ErrTime, api.ErrTime}, {each(), 2, "", 2, "", api.ErrTime, api.ErrTime}, {each(), 1, "", 20, "", api.ErrTime, api.ErrTime}, {each(), 1, "", math.MaxInt, "", api.ErrTime, api.ErrTime}, {late, 1, "", 84, "", api.ErrTime, api.ErrTime}, {late, 1, "", 105, "", api.ErrTime, api.ErrTime},
		{each(), 1, "", 19, "", api.ErrDuty, api.ErrDuty}, {each(), 1, "ann", 10, "", api.ErrDuty, api.ErrDuty}, {each(), 2, "bob", 4, "", api.ErrDuty, api.ErrDuty}, {late, 1, "dan", 104, "x\n", api.OK, api.OK}, {late, 1, "dan", 89, "x\n", api.ErrDuty, api.ErrDuty},
		{each(), 1, "cyd", 19, "", api.ErrOwn, api.ErrOwn}, {each(), 2, "cyd", 3, "", api.ErrOwn, api.ErrOwn},
		{each(), 2, "ann", 3, "", api.ErrTwice, api.OK}, {each(), 2, "bob", 5, "", api.ErrValue, api.OK}, {each(), 1, "ann", 0, "x", api.ErrValue, api.OK}, {each(), 1, "ann", 0, "x\n", api.OK, api.OK}, {each(), 2, "bob", 5, "x\n", api.OK, api.OK},
	} {
		name := fmt.Sprint(c.number, c.person, c.time)
		before := fmt.Sprint(c.l)
		got, e := desk.Sign(c.l, rota(), deadline, c.number, c.person, c.time, c.text)
		should := slices.Clone(c.l)
		if c.sign == api.OK {
			x := &should[c.number-1]
			x.Signatures = append(slices.Clone(x.Signatures), by(c.person, c.time))
			x.State = []int{0, api.OutputSigned, api.OutputCleared}[len(x.Signatures)]
		}
		want(t, "sign "+name, fmt.Sprint(got, e), fmt.Sprint(should, c.sign))
		got, e = desk.Refuse(c.l, rota(), deadline, c.number, c.person, c.time)
		should = slices.Clone(c.l)
		if c.refuse == api.OK {
			should[c.number-1].State = api.OutputRefused
		}
		want(t, "refuse "+name, fmt.Sprint(got, e), fmt.Sprint(should, c.refuse))
		want(t, "it stays", fmt.Sprint(c.l), before)
	}
}

// TestExpire is about P37.4.
func TestExpire(t *testing.T) {
	l := append(each(), api.Output{Number: 9, Project: "p", Researcher: "cyd", Time: 7, State: 1})
	for time, numbers := range map[int][]int{0: nil, 19: nil, 20: {1, 2}, 26: {1, 2}, 27: {1, 2, 9}, 2 * api.MaxTime: {1, 2, 9}} {
		should := slices.Clone(l)
		for _, n := range numbers {
			should[n-1].State = api.OutputExpired
		}
		got, of, e := desk.Expire(l, rota(), deadline, time)
		want(t, fmt.Sprint("expire at ", time), fmt.Sprint(got, of, e), fmt.Sprint(should, numbers, api.OK))
		want(t, "valid", desk.Check(got, rota(), deadline), api.OK)
	}
	for _, time := range []int{-1, 2*api.MaxTime + 1, math.MinInt, math.MaxInt} {
		got, of, e := desk.Expire(l, rota(), deadline, time)
		want(t, fmt.Sprint("expire at ", time), fmt.Sprint(got, of, e), fmt.Sprint(l, []int{}, api.ErrTime))
	}
}

// TestRelease is about P37.4.
func TestRelease(t *testing.T) {
	for number := -1; number < 11; number++ {
		got, e := desk.Release(each(), rota(), deadline, number)
		should, err := each(), api.ErrState
		switch {
		case number < 1 || number > 8:
			err = api.ErrNumber
		case number == 3:
			should[2].State, err = api.OutputReleased, api.OK
		}
		want(t, fmt.Sprint("release ", number), fmt.Sprint(got, e), fmt.Sprint(should, err))
	}
}

// TestAnyHistory is about what follows: a desk stays valid, what is refused, expired or released stays so, and whatever was released has two signatures.
func TestAnyHistory(t *testing.T) {
	r := rand.New(rand.NewSource(1))
	released := 0
	for range 300 {
		var l []api.Output
		for step := range 30 {
			before, number, time := l, 1+r.Intn(2), step/2
			person := []string{"ann", "bob", "ann", "bob", "cyd", "eve"}[r.Intn(6)]
			switch r.Intn(9) {
			case 0, 1:
				x := output(len(l)+1, 1)
				x.Time = time
				l, _ = desk.Submit(l, rota(), 12, x)
			case 2:
				l, _ = desk.Refuse(l, rota(), 12, number, person, time)
			case 3:
				l, _, _ = desk.Expire(l, rota(), 12, time)
			case 4, 5:
				l, _ = desk.Release(l, rota(), 12, number)
			default:
				l, _ = desk.Sign(l, rota(), 12, number, person, time, "x\n")
			}
			want(t, "valid", desk.Check(l, rota(), 12), api.OK)
			changed := 0
			for i, x := range before {
				if fmt.Sprint(x) != fmt.Sprint(l[i]) {
					changed++
					want(t, "it was not at its end", x.State < 4, true)
				}
			}
		}
		for _, x := range l {
			if x.State == api.OutputReleased {
				released++
				want(t, "two signatures", len(x.Signatures) == 2 && x.Signatures[0].Person != x.Signatures[1].Person, true)
			}
		}
	}
	want(t, "some were released", released > 30, true)
}
