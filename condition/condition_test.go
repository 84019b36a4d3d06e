package condition_test

import (
	"fmt"
	"math"
	"math/rand"
	"strings"
	"testing"

	"dataenclave/api"
	"dataenclave/condition"
	"dataenclave/example"
	"dataenclave/schema"
)

func want(t *testing.T, name string, got, want any) {
	t.Helper()
	if fmt.Sprintf("%+v", got) != fmt.Sprintf("%+v", want) {
		t.Errorf("%s: got %+v, want %+v", name, got, want)
	}
}

func all() api.Cond { return api.Cond{Op: api.CondAll} }

func under(column, code int) api.Cond {
	return api.Cond{Op: api.CondUnder, Column: column, Code: code}
}

func between(column, low, high int) api.Cond {
	return api.Cond{Op: api.CondBetween, Column: column, Low: low, High: high}
}

func missing(column int) api.Cond { return api.Cond{Op: api.CondMissing, Column: column} }

func and(a, b api.Cond) api.Cond { return api.Cond{Op: api.CondAnd, Kids: []api.Cond{a, b}} }

func or(a, b api.Cond) api.Cond { return api.Cond{Op: api.CondOr, Kids: []api.Cond{a, b}} }

func not(a api.Cond) api.Cond { return api.Cond{Op: api.CondNot, Kids: []api.Cond{a}} }

func deep(n int) api.Cond {
	c := all()
	for range n - 1 {
		c = not(c)
	}
	return c
}

// wide has n conditions, n being odd.
func wide(n int) api.Cond {
	if n < 3 {
		return all()
	}
	half := (n - 1) / 2
	if half%2 == 0 {
		half--
	}
	return and(wide(half), wide(n-1-half))
}

func wrongSchema() api.Schema {
	s := example.Schema()
	s.Columns[1].Name = "or"
	return s
}

// TestCheck is about P5.1: each error.
func TestCheck(t *testing.T) {
	s := example.Schema()
	const most = api.MaxMeasure
	endless := []api.Cond{{Op: api.CondNot}}
	endless[0].Kids = endless
	for _, c := range []struct {
		name string
		c    api.Cond
		e    api.Errno
	}{
		{"all", all(), api.OK},
		{"under a leaf", under(example.Area, 5), api.OK},
		{"under the root", under(example.Area, 0), api.OK},
		{"between", between(example.Age, -most, most), api.OK},
		{"between two equal", between(example.Income, 7, 7), api.OK},
		{"missing", missing(example.Income), api.OK},
		{"together", and(or(all(), not(under(2, 1))), missing(4)), api.OK},
		{"40 conditions", not(wide(39)), api.OK},
		{"41 conditions", wide(41), api.ErrLimit},
		{"10 deep", deep(10), api.OK},
		{"11 deep", deep(11), api.ErrDepth},
		{"too many and too deep", and(deep(39), all()), api.ErrLimit},
		{"endless", endless[0], api.ErrLimit},
		{"no Op", api.Cond{}, api.ErrKind},
		{"Op 8", api.Cond{Op: 8}, api.ErrKind},
		{"Op below 0", api.Cond{Op: -1}, api.ErrKind},
		{"under the id", under(0, 0), api.ErrColumn},
		{"under a measure", under(3, 0), api.ErrColumn},
		{"under no column", under(7, 0), api.ErrColumn},
		{"under a column below 0", under(-1, 0), api.ErrColumn},
		{"under no code", under(1, 6), api.ErrCode},
		{"under a code below 0", under(1, -1), api.ErrCode},
		{"between codes", between(1, 0, 1), api.ErrColumn},
		{"between ids", between(0, 1, 2), api.ErrColumn},
		{"between in no column", between(9, 1, 2), api.ErrColumn},
		{"between that descends", between(3, 2, 1), api.ErrRange},
		{"between from too low", between(3, -most-1, 1), api.ErrRange},
		{"between to too high", between(3, 0, most+1), api.ErrRange},
		{"missing in a measure that is not optional", missing(3), api.ErrColumn},
		{"missing in codes", missing(1), api.ErrColumn},
		{"missing in no column", missing(7), api.ErrColumn},
	} {
		want(t, c.name, condition.Check(s, c.c), c.e)
	}
	want(t, "a wrong schema first", condition.Check(wrongSchema(), api.Cond{}), api.ErrName)
}

// TestCheckForm is about P5.1: fields that are not used, and numbers of Kids.
func TestCheckForm(t *testing.T) {
	s := example.Schema()
	for op, kids := range map[int]int{api.CondAll: 0, api.CondUnder: 0, api.CondBetween: 0, api.CondMissing: 0, api.CondAnd: 2, api.CondOr: 2, api.CondNot: 1} {
		for n := range 4 {
			c := api.Cond{Op: op, Kids: make([]api.Cond, n)}
			for i := range c.Kids {
				c.Kids[i] = all()
			}
			e := condition.Check(s, c)
			want(t, fmt.Sprint(op, " with ", n, " kids"), e == api.ErrForm, n != kids)
		}
	}
	for i, change := range []func(c *api.Cond){func(c *api.Cond) { c.Column += 4 }, func(c *api.Cond) { c.Code++ }, func(c *api.Cond) { c.Low++ }, func(c *api.Cond) { c.High++ }} {
		for k, c := range []api.Cond{all(), under(1, 1), between(3, 1, 4), missing(4), and(all(), all()), or(all(), all()), not(all())} {
			uses := [][]bool{{}, {true, true, false, false}, {true, false, true, true}, {true, false, false, false}, {}, {}, {}}[k]
			change(&c)
			want(t, fmt.Sprint("change ", i, " of ", k), condition.Check(s, c) == api.ErrForm, len(uses) == 0 || !uses[i])
		}
	}
	c := under(1, 1)
	c.Kids = []api.Cond{}
	want(t, "an empty list of Kids", condition.Check(s, c), api.OK)
}

// TestCheckOrder is about P5.1: from outside to inside, and from left to right.
func TestCheckOrder(t *testing.T) {
	s := example.Schema()
	bad := between(3, 2, 1)
	bad.Code = 5
	for _, c := range []struct {
		name string
		c    api.Cond
		e    api.Errno
	}{
		{"outside first", api.Cond{Op: api.CondNot, Code: 1, Kids: []api.Cond{{Op: 9}}}, api.ErrForm},
		{"left first", and(under(1, 9), api.Cond{Op: 9}), api.ErrCode},
		{"all of the left first", and(not(under(1, 9)), api.Cond{Op: 9}), api.ErrCode},
		{"the right one, too", and(all(), not(missing(3))), api.ErrColumn},
		{"form before range", bad, api.ErrForm},
		{"column before range", between(1, 2, 1), api.ErrColumn},
		{"column before code", under(3, 99), api.ErrColumn},
		{"depth before kinds", func() api.Cond { c := deep(11); c.Op = 9; return c }(), api.ErrDepth},
	} {
		want(t, c.name, condition.Check(s, c.c), c.e)
	}
}

// TestEval is about P5.2.
func TestEval(t *testing.T) {
	s := example.Schema()
	row := []int{1, 3, 1, 34, api.Missing, 10, 3}
	yes, no, open := all(), not(all()), between(example.Income, 0, 5)
	for _, c := range []struct {
		c     api.Cond
		truth int
	}{
		{yes, 1}, {no, -1}, {open, 0}, {not(open), 0},
		{under(1, 3), 1}, {under(1, 1), 1}, {under(1, 0), 1}, {under(1, 2), -1}, {under(1, 4), -1},
		{between(3, 34, 34), 1}, {between(3, 30, 34), 1}, {between(3, 34, 40), 1}, {between(3, 35, 40), -1}, {between(3, 0, 33), -1}, {between(3, -100, 100), 1},
		{missing(4), 1}, {not(missing(4)), -1}, {between(4, -api.MaxMeasure, api.MaxMeasure), 0},
		{and(yes, yes), 1}, {and(yes, no), -1}, {and(no, yes), -1}, {and(yes, open), 0}, {and(open, yes), 0}, {and(no, open), -1}, {and(open, no), -1}, {and(open, open), 0},
		{or(no, no), -1}, {or(yes, no), 1}, {or(no, yes), 1}, {or(open, no), 0}, {or(no, open), 0}, {or(yes, open), 1}, {or(open, yes), 1},
		{between(3, 2, 1), 0}, {api.Cond{}, 0}, {deep(11), 0}, {deep(10), -1}, {wide(41), 0}, {wide(39), 1},
	} {
		want(t, fmt.Sprintf("%+v", c.c), condition.Eval(s, c.c, row), c.truth)
	}
	row[4] = 5
	want(t, "a measure that is there", condition.Eval(s, missing(4), row), api.False)
	want(t, "a measure that is there", condition.Eval(s, open, row), api.True)
	for _, bad := range [][]int{nil, row[:6], {1, 1, 1, 34, 5, 10, 3}, {0, 3, 1, 34, 5, 10, 3}, {1, 3, 1, api.Missing, 5, 10, 3}} {
		want(t, "a row that does not fit", condition.Eval(s, yes, bad), api.Unknown)
	}
	want(t, "a wrong schema", condition.Eval(wrongSchema(), yes, row), api.Unknown)
}

// TestNeeds is about P5.3: conditions whose needs are clear.
func TestNeeds(t *testing.T) {
	s := example.Schema()
	for _, c := range []struct {
		c     api.Cond
		picks []api.Pick
	}{
		{all(), nil},
		{under(1, 0), nil},
		{under(1, 1), example.Picks(1, 1)}, {under(1, 3), example.Picks(1, 2)},
		{under(1, 5), example.Picks(1, 1)},
		{under(6, 3), example.Picks(6, 1)}, {under(6, 1), example.Picks(6, 1)},
		{between(3, 0, 99), nil}, {between(3, -7, 200), nil}, {between(3, 100, 200), nil},
		{between(3, 20, 39), example.Picks(3, 1)}, {between(3, 20, 99), example.Picks(3, 1)}, {between(3, 20, 38), example.Picks(3, 3)}, {between(3, 5, 39), example.Picks(3, 2)}, {between(3, 0, 4), example.Picks(3, 2)}, {between(3, 21, 99), example.Picks(3, 3)},
		{between(3, 99, 99), example.Picks(3, 3)}, {between(3, 95, 150), example.Picks(3, 2)},
		{missing(4), example.Picks(4, 1)}, {between(4, -500, 5000), example.Picks(4, 1)}, {between(4, 6000, 6001), example.Picks(4, 1)}, {between(4, -400, 4999), example.Picks(4, 1)}, {between(4, -400, 5000), example.Picks(4, 1)}, {between(4, -450, 5000), example.Picks(4, 2)},
		{and(under(6, 2), or(not(missing(4)), between(3, 20, 39))), example.Picks(3, 1, 4, 1, 6, 1)},
		{and(between(3, 20, 39), between(3, 20, 24)), example.Picks(3, 2)},
		{between(3, 2, 1), nil},
	} {
		want(t, fmt.Sprintf("%+v", c.c), condition.Needs(s, c.c), c.picks)
	}
	want(t, "a wrong schema", condition.Needs(wrongSchema(), under(1, 1)), []api.Pick{})
}

// tiny has small columns, so that all rows can be tried.
func tiny() api.Schema {
	return api.Schema{
		Lists: example.Schema().Lists,
		Columns: []api.Column{
			{Name: "id", Kind: api.ColumnId},
			{Name: "x", Kind: api.ColumnMeasure, Low: -3, High: 9, Widths: []int{1, 2, 6}, Optional: true},
			{Name: "area", Kind: api.ColumnCode, List: 0},
			{Name: "y", Kind: api.ColumnMeasure, Low: 5, High: 8, Widths: []int{1, 3, 9}},
			{Name: "kind", Kind: api.ColumnCode, List: 2},
		},
	}
}

// tinyValues returns all values of a column of tiny.
func tinyValues(column int) []int {
	switch column {
	case 1:
		return []int{api.Missing, -3, -2, -1, 0, 1, 2, 3, 4, 5, 6, 7, 8, 9}
	case 2:
		return []int{3, 4, 5}
	case 3:
		return []int{5, 6, 7, 8}
	}
	return []int{3, 4}
}

// random makes a condition about tiny.
func random(r *rand.Rand, deep int) api.Cond {
	if deep > 1 && r.Intn(3) > 0 {
		switch r.Intn(3) {
		case 0:
			return and(random(r, deep-1), random(r, deep-1))
		case 1:
			return or(random(r, deep-1), random(r, deep-1))
		}
		return not(random(r, deep-1))
	}
	a, b := r.Intn(16)-5, r.Intn(16)-5
	switch r.Intn(6) {
	case 0:
		return all()
	case 1:
		return under(2, r.Intn(6))
	case 2:
		return under(4, r.Intn(5))
	case 3:
		return missing(1)
	case 4:
		return between(1, min(a, b), max(a, b))
	}
	return between(3, min(a, b), max(a, b))
}

// atoms returns the conditions about a column alone.
func atoms(c api.Cond) []api.Cond {
	if len(c.Kids) == 0 && c.Op != api.CondAll {
		return []api.Cond{c}
	}
	var l []api.Cond
	for _, kid := range c.Kids {
		l = append(l, atoms(kid)...)
	}
	return l
}

// needed finds what Needs has to return by trying all values.
func needed(s api.Schema, c api.Cond) []api.Pick {
	var l []api.Pick
	for column := 1; column < 5; column++ {
		need := 0
		for _, a := range atoms(c) {
			for level := schema.Finest(s, column); a.Column == column && level >= need; level-- {
				says := map[int]int{}
				for _, v := range tinyValues(column) {
					row := []int{1, 0, 3, 5, 3}
					row[column] = v
					block, truth := schema.Coarse(s, column, level, v), condition.Eval(s, a, row)
					if before, ok := says[block]; ok && before != truth {
						need = max(need, level+1)
					}
					says[block] = truth
				}
			}
		}
		if need > 0 {
			l = append(l, api.Pick{Column: column, Level: need})
		}
	}
	return l
}

// TestNeedsByTrying is about P5.3.
func TestNeedsByTrying(t *testing.T) {
	r := rand.New(rand.NewSource(5))
	for range 300 {
		c := random(r, 3)
		want(t, fmt.Sprintf("%+v", c), condition.Needs(tiny(), c), needed(tiny(), c))
	}
}

// TestCoarse is about P5.3: with picks that suffice Coarse is Eval, with others it knows nothing.
func TestCoarse(t *testing.T) {
	r := rand.New(rand.NewSource(7))
	s := tiny()
	for range 200 {
		c := random(r, 3)
		needs := map[int]int{}
		for _, p := range condition.Needs(s, c) {
			needs[p.Column] = p.Level
		}
		var picks []api.Pick
		suffice := true
		for column := 1; column < 5; column++ {
			level := min(needs[column]+r.Intn(3)-r.Intn(9)/8, schema.Finest(s, column))
			if level >= 0 && (needs[column] > 0 || r.Intn(2) == 0) {
				picks = append(picks, api.Pick{Column: column, Level: level})
			}
			suffice = suffice && (needs[column] == 0 || level >= needs[column])
		}
		for range 20 {
			row, values := []int{1}, []int{}
			for column := 1; column < 5; column++ {
				l := tinyValues(column)
				row = append(row, l[r.Intn(len(l))])
			}
			for _, p := range picks {
				values = append(values, schema.Coarse(s, p.Column, p.Level, row[p.Column]))
			}
			truth := api.Unknown
			if suffice {
				truth = condition.Eval(s, c, row)
			}
			want(t, fmt.Sprintf("%+v %v %v", c, picks, row), condition.Coarse(s, c, picks, values), truth)
		}
	}
}

// TestCoarseErrors is about P5.3: picks and values that are none.
func TestCoarseErrors(t *testing.T) {
	s := example.Schema()
	c := between(example.Age, 20, 39)
	for _, x := range []struct {
		name   string
		c      api.Cond
		picks  []api.Pick
		values []int
		truth  int
	}{
		{"right", c, example.Picks(1, 0, 3, 1), []int{0, 20}, 1},
		{"right", c, example.Picks(1, 0, 3, 1), []int{0, 40}, -1},
		{"finer", c, example.Picks(3, 2), []int{35}, 1},
		{"coarser", c, example.Picks(3, 0), []int{0}, 0},
		{"not there", c, example.Picks(1, 2), []int{3}, 0},
		{"no picks", c, nil, nil, 0},
		{"no picks for all", all(), nil, nil, 1},
		{"a value too few", c, example.Picks(1, 0, 3, 1), []int{0}, 0},
		{"a value too many", c, example.Picks(3, 1), []int{20, 0}, 0},
		{"a value too many for all", all(), nil, []int{0}, 0},
		{"picks that descend", c, example.Picks(3, 1, 1, 0), []int{20, 0}, 0},
		{"a pick twice", c, example.Picks(3, 1, 3, 1), []int{20, 20}, 0},
		{"a pick of no level", c, example.Picks(3, 4), []int{20}, 0},
		{"no such value", c, example.Picks(3, 1), []int{21}, 0},
		{"no such value", c, example.Picks(3, 1), []int{100}, 0},
		{"no such value", c, example.Picks(3, 1), []int{api.Missing}, 0},
		{"no such value elsewhere", c, example.Picks(1, 1, 3, 1), []int{3, 20}, 0},
		{"no such value for all", all(), example.Picks(1, 1), []int{3}, 0},
		{"a wrong condition", between(3, 5, 4), example.Picks(3, 3), []int{5}, 0},
		{"missing", between(4, 0, 7), example.Picks(4, 2), []int{api.Missing}, 0},
		{"not a wrong value", not(between(4, 0, 7)), example.Picks(4, 2), []int{9}, 1},
	} {
		want(t, x.name, condition.Coarse(s, x.c, x.picks, x.values), x.truth)
	}
	want(t, "a wrong schema", condition.Coarse(wrongSchema(), all(), nil, nil), api.Unknown)
}

// TestText is about P5.4: texts, and their conditions.
func TestText(t *testing.T) {
	s := example.Schema()
	for _, c := range []struct {
		text string
		c    api.Cond
	}{
		{"all", all()},
		{"area under land", under(1, 0)},
		{"kind under l1", under(6, 4)},
		{"age from -5 to 39", between(3, -5, 39)},
		{"income from -1000000 to 1000000", between(4, -1000000, 1000000)},
		{"income missing", missing(4)},
		{"(age from 20 to 39 and not sex under f)", and(between(3, 20, 39), not(under(2, 1)))},
		{"not (all or (all and not not all))", not(or(all(), and(all(), not(not(all())))))},
		{"((all and all) or all)", or(and(all(), all()), all())},
		{strings.Repeat("not ", 9) + "all", deep(10)},
	} {
		text, e := condition.Print(s, c.c)
		want(t, c.text, fmt.Sprint(text, e), fmt.Sprint(c.text, api.OK))
		read, e := condition.Parse(s, c.text)
		want(t, c.text, fmt.Sprintf("%+v %v", read, e), fmt.Sprintf("%+v %v", c.c, api.OK))
	}
	for _, c := range []struct {
		c api.Cond
		e api.Errno
	}{{api.Cond{}, api.ErrKind}, {deep(11), api.ErrDepth}, {under(1, 6), api.ErrCode}} {
		text, e := condition.Print(s, c.c)
		want(t, "no text", fmt.Sprint(text, e), fmt.Sprint("", c.e))
	}
	_, e := condition.Print(wrongSchema(), all())
	want(t, "a wrong schema", e, api.ErrName)
	_, e = condition.Parse(wrongSchema(), "")
	want(t, "a wrong schema", e, api.ErrName)
}

// full is the text of 2^levels - 1 conditions.
func full(levels int) string {
	if levels == 1 {
		return "all"
	}
	return "(" + full(levels-1) + " and " + full(levels-1) + ")"
}

// TestParseErrors is about P5.4: texts of no right condition.
func TestParseErrors(t *testing.T) {
	for _, text := range []string{
		"", " ", "all ", " all", "All", "(all)", "all and all", "(all and all", "(all and all))", "(all  and all)", "(all or all and all)", "(all xor all)", "(all and)", "()", "(", ")",
		"not", "not ", "notall", "not(all)", "not  all", "all all", "alls",
		"area", "area ", "area under", "area under ", "area under x", "area under north ", "area  under north", "area under 1", "person under f", "age under f", "area under f", "x under f", "area from 0 to 1", "age from 0", "age from 0 to", "age from 0 to ", "age from to 1", "age from 00 to 1", "age from 0 to 01", "age from -0 to 1", "age from +0 to 1", "age from 2 to 1", "age from 0 to 1000001", "age from -1000001 to 0", "age from 0 to 99999999999999999999", "age  from 0 to 1", "age from 0  to 1", "age from 0 to 1 ", "age from 0 to 1.0",
		"age missing", "area missing", "income missing ", "income missing all", "person missing", "from 0 to 1", "under f", "missing",
		strings.Repeat("not ", 10) + "all", strings.Repeat("not ", 100000) + "all", strings.Repeat("(", 100000),
		full(6),
	} {
		c, e := condition.Parse(example.Schema(), text)
		want(t, text[:min(len(text), 80)], fmt.Sprintf("%+v %v", c, e), fmt.Sprintf("%+v %v", api.Cond{}, api.ErrForm))
	}
}

// TestRoundTrip is about P5.4.
func TestRoundTrip(t *testing.T) {
	r := rand.New(rand.NewSource(11))
	for range 200 {
		c := random(r, 4)
		text, e := condition.Print(tiny(), c)
		if e == api.ErrLimit {
			continue
		}
		again, e := condition.Parse(tiny(), text)
		want(t, text, fmt.Sprintf("%+v %v", again, e), fmt.Sprintf("%+v %v", c, api.OK))
	}
}

// TestAnyArguments is about the rule R1.
func TestAnyArguments(t *testing.T) {
	s := example.Schema()
	for _, n := range []int{math.MinInt, -1, 0, 1, 3, 4, 7, math.MaxInt} {
		for op := -1; op < 9; op++ {
			c := api.Cond{Op: op, Column: n, Code: n, Low: n, High: n}
			condition.Check(s, c)
			condition.Needs(s, c)
			condition.Eval(s, c, []int{n})
			condition.Coarse(s, c, []api.Pick{{Column: n, Level: n}}, []int{n})
			condition.Print(s, c)
		}
	}
}
