package room_test

import (
	"fmt"
	"slices"
	"strings"
	"testing"

	"dataenclave/api"
	"dataenclave/example"
	"dataenclave/journal"
	"dataenclave/program"
	"dataenclave/room"
)

func want(t *testing.T, name string, got, want any) {
	t.Helper()
	if fmt.Sprintf("%+v", got) != fmt.Sprintf("%+v", want) {
		t.Errorf("%s: got %+v, want %+v", name, got, want)
	}
}

func parse(t *testing.T, text string) []api.Statement {
	t.Helper()
	l, line, e := program.Parse(example.Schema(), text)
	if e != api.OK {
		t.Fatal(text, line, e)
	}
	return l
}

// some is a session of which an output was asked for.
func some(t *testing.T) api.Session {
	return api.Session{Project: "trial", Extract: example.Extract(), Program: parse(t, "let a = count(all)\nout b = (a * 2)\nout c = table(area/1; -; all)\n"), Asked: []string{"b"}, Log: 7}
}

func with(t *testing.T, change func(x *api.Session)) api.Session {
	x := some(t)
	change(&x)
	return x
}

func wrongSchema() api.Schema {
	s := example.Schema()
	s.Columns[1].Name = "person"
	return s
}

// TestCheck is about P24.1.
func TestCheck(t *testing.T) {
	type x = api.Session
	for _, c := range []struct {
		name   string
		change func(x *x)
		e      api.Errno
	}{
		{"some", func(x *x) {}, api.OK},
		{"the extract", func(x *x) { x.Project, x.Extract.Version = "other", -1 }, api.ErrVersion},
		{"the project", func(x *x) { x.Project, x.Program[2].Name = "other", "a" }, api.ErrName},
		{"the program", func(x *x) { x.Program[2].Name, x.Asked = "a", []string{"no"} }, api.ErrDuplicate},
		{"the types", func(x *x) { x.Extract.Picks, x.Extract.Rows, x.Asked = nil, nil, []string{"no"} }, api.ErrPlan},
		{"asked for what is not there", func(x *x) { x.Asked, x.Log = []string{"b", "b", "no"}, -1 }, api.ErrNone},
		{"asked for what is not to leave", func(x *x) { x.Asked = []string{"a"} }, api.ErrNone},
		{"asked twice", func(x *x) { x.Asked, x.Log = []string{"c", "b", "c"}, -1 }, api.ErrDuplicate},
		{"asked for all", func(x *x) { x.Asked = []string{"c", "b"} }, api.OK},
		{"a log below 0", func(x *x) { x.Log = -1 }, api.ErrRange},
		{"the least log", func(x *x) { x.Log = 0 }, api.OK},
		{"the greatest log", func(x *x) { x.Log = api.MaxLog }, api.OK},
		{"too great a log", func(x *x) { x.Log = api.MaxLog + 1 }, api.ErrRange},
		{"closed", func(x *x) { x.Closed = true }, api.OK},
	} {
		want(t, c.name, room.Check(example.Schema(), with(t, c.change)), c.e)
	}
	want(t, "a wrong schema", room.Check(wrongSchema(), some(t)), api.ErrDuplicate)
}

// TestNew is about P24.1.
func TestNew(t *testing.T) {
	x, e := room.New(example.Schema(), example.Extract())
	want(t, "new", fmt.Sprint(x, e), fmt.Sprint(api.Session{Project: "trial", Extract: example.Extract()}, api.OK))
	want(t, "it is valid", room.Check(example.Schema(), x), api.OK)
	x, e = room.New(example.Schema(), api.Extract{})
	want(t, "error", fmt.Sprint(x, e), fmt.Sprint(api.Session{}, api.ErrName))
}

func let(x api.Statement) api.Command { return api.Command{Kind: api.CommandLet, Statement: x} }

func ask(name string) api.Command { return api.Command{Kind: api.CommandAsk, Name: name} }

func change(version int, gone []int, rows ...[]int) api.Command {
	return api.Command{Kind: api.CommandChange, Change: api.Change{Version: version, Gone: gone, Rows: rows}}
}

var undo, closing = api.Command{Kind: api.CommandUndo}, api.Command{Kind: api.CommandClose}

// row is a row of the example with another key.
func row(key int) []int {
	l := slices.Clone(example.Rows()[1])
	l[0] = key
	return l
}

// TestApply is about P24.2: what commands do, whatever their other fields are.
func TestApply(t *testing.T) {
	d := parse(t, "let a = 1\nout b = 1\nout d = (b / a)\n")[2]
	rows := append(example.Rows()[1:], row(800))
	rows[1] = slices.Clone(rows[1])
	rows[1][4] = 77
	for _, c := range []struct {
		name string
		c    api.Command
		want func(x *api.Session)
	}{
		{"let", let(d), func(x *api.Session) { x.Program = append(x.Program, d) }},
		{"undo", undo, func(x *api.Session) { x.Program = x.Program[:2] }},
		{"ask", ask("c"), func(x *api.Session) { x.Asked = []string{"b", "c"} }},
		{"change", change(9, []int{1}, rows[1], row(800)), func(x *api.Session) { x.Extract.Version, x.Extract.Rows = 9, rows }},
		{"close", closing, func(x *api.Session) { x.Closed = true }},
	} {
		x := some(t)
		x.Program, x.Asked = slices.Grow(x.Program, 4), slices.Grow(x.Asked, 4)
		c.c.Name += strings.Repeat("x", map[bool]int{true: 0, false: 1}[c.c.Kind == api.CommandAsk])
		y, e := room.Apply(example.Schema(), x, c.c)
		should := with(t, c.want)
		should.Log = 8
		want(t, c.name, fmt.Sprintf("%+v %d", y, e), fmt.Sprintf("%+v %d", should, api.OK))
		want(t, c.name+" keeps it valid", room.Check(example.Schema(), y), api.OK)
		want(t, c.name+": it stays", x, some(t))
		want(t, c.name+": spare capacity", fmt.Sprint(x.Program[:4][3], x.Asked[:2][1]), fmt.Sprint(api.Statement{}, ""))
	}
}

// TestApplyErrors is about P24.2: errors, of which the first one counts, with the session as it is.
func TestApplyErrors(t *testing.T) {
	type x = api.Session
	one := parse(t, "let z = 1\n")[0]
	typed := parse(t, "let c = 1\nlet z = (c + 1)\n")[1]
	empty := with(t, func(x *x) { x.Program, x.Asked = nil, nil })
	failing := with(t, func(x *x) {
		x.Program = append(x.Program, parse(t, "out f = (1 / 0)\n")...)
	})
	for _, c := range []struct {
		name string
		x    x
		c    api.Command
		e    api.Errno
	}{
		{"the session first", with(t, func(x *x) { x.Log, x.Closed = 401, true }), api.Command{}, api.ErrRange},
		{"closed before full", with(t, func(x *x) { x.Log, x.Closed = 400, true }), api.Command{}, api.ErrState},
		{"full before the kind", with(t, func(x *x) { x.Log = 400 }), api.Command{}, api.ErrFull},
		{"just not full", with(t, func(x *x) { x.Log = 399 }), undo, api.OK},
		{"no kind", some(t), api.Command{}, api.ErrKind},
		{"no kind", some(t), api.Command{Kind: 6}, api.ErrKind},
		{"no kind", some(t), api.Command{Kind: -1}, api.ErrKind},
		{"let of no name", some(t), let(api.Statement{}), api.ErrName},
		{"let of a name that is there", some(t), let(parse(t, "let b = 1\n")[0]), api.ErrDuplicate},
		{"let of a wrong type", some(t), let(typed), api.ErrType},
		{"let of one too many", with(t, func(x *x) {
			for i := range 27 {
				x.Program = append(x.Program, api.Statement{Name: fmt.Sprintf("s%d", i), Expr: one.Expr})
			}
		}), let(one), api.ErrLimit},
		{"undo of nothing", empty, undo, api.ErrNone},
		{"undo of all", with(t, func(x *x) { x.Program, x.Asked = x.Program[:1], nil }), undo, api.OK},
		{"undo of what was asked for", with(t, func(x *x) { x.Asked = []string{"c"} }), undo, api.ErrState},
		{"undo of what is not the last one asked for", some(t), undo, api.OK},
		{"ask for what is not there", some(t), ask("z"), api.ErrName},
		{"ask for what is not to leave", some(t), ask("a"), api.ErrName},
		{"ask twice", some(t), ask("b"), api.ErrDuplicate},
		{"ask twice in a program that fails", failing, ask("b"), api.ErrDuplicate},
		{"ask in a program that fails", failing, ask("c"), api.ErrEmpty},
		{"a change that is none", some(t), change(9, []int{6}), api.ErrNone},
		{"a change to a wrong version", some(t), change(-1, nil), api.ErrVersion},
		{"a change to a wrong row", some(t), change(9, nil, []int{800, 0, 1, 1, 1, 1, 3}), api.ErrRow},
	} {
		y, e := room.Apply(example.Schema(), c.x, c.c)
		want(t, c.name, e, c.e)
		payload, also := room.Payload(example.Schema(), c.x, c.c)
		want(t, c.name+": payload", also, c.e)
		f, z, too := room.Write(example.Schema(), api.File{Pending: []byte{1}}, c.x, c.c)
		want(t, c.name+": write", too, c.e)
		if c.e != api.OK {
			want(t, c.name, y, c.x)
			want(t, c.name+": payload", payload, []byte{})
			want(t, c.name+": write", fmt.Sprint(f, z), fmt.Sprint(api.File{Pending: []byte{1}}, c.x))
		}
	}
}

// TestPayload is about P24.3: payloads, and back.
func TestPayload(t *testing.T) {
	s, x := example.Schema(), some(t)
	for _, c := range []struct {
		c       api.Command
		payload string
	}{
		{let(parse(t, "out b = 1\nout z = (b - count(sex under f))\n")[1]), "1out z = (b - count(sex under f))\n"},
		{undo, "2"}, {ask("c"), "3c"}, {closing, "5"},
		{change(2, nil, row(7)), "42,0,1,7,7,3,2,41,-50,22,4,"},
		{change(300, []int{1, 9}), "4300,2,1,9,0,"},
		{change(0, nil, []int{7, 3, 1, 0, api.Missing, 0, 4}, row(900)), "40,0,2,7,7,3,1,0,-1099511627776,0,4,7,900,3,2,41,-50,22,4,"},
	} {
		b, e := room.Payload(s, x, c.c)
		want(t, c.payload, fmt.Sprint(string(b), e), fmt.Sprint(c.payload, api.OK))
		back, e := room.Command(s, x, []byte(c.payload))
		want(t, c.payload, fmt.Sprintf("%+v %d", back, e), fmt.Sprintf("%+v %d", c.c, api.OK))
		odd := c.c
		odd.Change.Version++
		if odd.Kind != api.CommandChange {
			b, _ = room.Payload(s, x, odd)
			want(t, "other fields do not matter", string(b), c.payload)
		}
	}
	few := x
	few.Extract.Picks, few.Extract.Rows, few.Program, few.Asked = example.Picks(3, 1), nil, nil, nil
	b, e := room.Payload(s, few, change(2, nil, []int{7, 0}))
	want(t, "a row of two values", fmt.Sprint(string(b), e), fmt.Sprint("42,0,1,2,7,0,", api.OK))
}

// TestCommandErrors is about P24.3: payloads of no command that would be carried out.
func TestCommandErrors(t *testing.T) {
	s := example.Schema()
	for _, payload := range []string{
		"", "0", "6", "7", "x", "1", "2 ", "22", "5\n", "3", "3z", "3a", "3b", "3c ", "3 c",
		"1let z = 1", "1let z = 1\n\n", "1let z = 1\nlet y = 1\n", "1 let z = 1\n", "1let a = 1\n", "1let z = x\n", "1let z = (c + 1)\n", "1let z = 01\n", "1\n",
		"4", "42", "42,", "42,0", "42,0,", "42,0,0", "42,0,0,0,", "42,0,0,,", "42,0,0, ", "42,0,00,", "402,0,0,", "4-1,0,0,", "4x,0,0,", "42,1,0,", "42,1,6,0,", "42,1,1,1,0,", "42,0,1,0,", "42,0,1,2,7,0,", "42,-1,0,", "42,0,-1,", "42,99999999999999,", "42,0,99999999999999,7,",
		"42,2,9,1,0,", "42,0,1,7,800,0,1,1,1,1,3,",
	} {
		c, e := room.Command(s, some(t), []byte(payload))
		want(t, payload, fmt.Sprint(c, e), fmt.Sprint(api.Command{}, api.ErrForm))
	}
	closed := with(t, func(x *api.Session) { x.Closed = true })
	_, e := room.Command(s, closed, []byte("2"))
	want(t, "of a closed session", e, api.ErrForm)
	_, e = room.Command(s, with(t, func(x *api.Session) { x.Log = -1 }), []byte("2"))
	want(t, "the session first", e, api.ErrRange)
}

// sum is the text of a sum of n counts.
func sum(n int) string {
	if n == 1 {
		return "count(income from -1000000 to -1000000)"
	}
	return "(" + sum(n/2) + " + " + sum(n-n/2) + ")"
}

// rows makes n new rows, whose incomes have so many digits more than one each, as long as there are more.
func rows(n, more int) [][]int {
	var l [][]int
	for i := range n {
		r := row(1000 + i)
		add := min(more, 3)
		r[4] = []int{1, 10, 100, 1000}[add]
		more -= add
		l = append(l, r)
	}
	return l
}

// TestLimits is about P24.3 and P24.4: payloads of just api.MaxRecord bytes, and longer ones, which Apply does not mind.
func TestLimits(t *testing.T) {
	s, x := example.Schema(), some(t)
	const n = 180
	b, e := room.Payload(s, x, change(2, nil, rows(n, 0)...))
	want(t, "shorter", e, api.OK)
	c := change(2, nil, rows(n, api.MaxRecord-len(b))...)
	b, e = room.Payload(s, x, c)
	want(t, "just so long", fmt.Sprint(len(b), e), fmt.Sprint(api.MaxRecord, api.OK))
	back, e := room.Command(s, x, b)
	want(t, "and back", fmt.Sprintf("%+v %d", back, e), fmt.Sprintf("%+v %d", c, api.OK))
	c.Change.Version = 10
	y, e := room.Apply(s, x, c)
	want(t, "a byte more is carried out", fmt.Sprint(len(y.Extract.Rows), e), fmt.Sprint(10+n, api.OK))
	_, e = room.Payload(s, x, c)
	want(t, "but has no payload", e, api.ErrLimit)
	f, z, e := room.Write(s, api.File{}, x, c)
	want(t, "and is not written", fmt.Sprint(f, z, e), fmt.Sprint(api.File{}, x, api.ErrLimit))
}

// TestLongProgram is about P24.3: a program that is too long to be printed.
func TestLongProgram(t *testing.T) {
	s := example.Schema()
	x := with(t, func(x *api.Session) { x.Program, x.Asked = nil, nil })
	for i := 10; ; i++ {
		line := fmt.Sprintf("let s%d = %s\n", i, sum(24))
		c := let(parse(t, line)[0])
		y, e := room.Apply(s, x, c)
		want(t, "it is carried out", e, api.OK)
		if _, e := room.Payload(s, x, c); e != api.OK {
			want(t, "but has no payload", e, api.ErrLimit)
			want(t, "behind how many statements", i-10, api.MaxText/len(line))
			_, e = room.Command(s, x, []byte("1"+line))
			want(t, "and cannot be read", e, api.ErrForm)
			_, e = room.Command(s, y, []byte("1let z = 1\n"))
			want(t, "nor what comes behind it", e, api.ErrForm)
			break
		}
		x = y
	}
}

// TestWriteAndResume is about P24.4.
func TestWriteAndResume(t *testing.T) {
	s := example.Schema()
	x, _ := room.New(s, example.Extract())
	d := parse(t, "let a = count(all)\nout b = (a * 2)\nout c = table(area/1; -; all)\nlet d = 1\n")
	var f api.File
	sessions := []api.Session{x}
	lengths := []int{0}
	for i, c := range []api.Command{let(d[0]), let(d[1]), let(d[2]), let(d[3]), undo, ask("b"), change(5, []int{700}, row(6)), ask("c"), closing} {
		g, y, e := room.Write(s, f, x, c)
		want(t, fmt.Sprint("write ", i), fmt.Sprint(e, len(g.Pending)), "0 0")
		should, _ := room.Apply(s, x, c)
		want(t, "session", y, should)
		f, x = g, y
		sessions, lengths = append(sessions, x), append(lengths, len(f.Bytes))
	}
	payloads, _ := journal.Read(f.Bytes)
	want(t, "payloads", fmt.Sprintf("%s", payloads[4:]), "[2 3b 45,1,700,1,7,6,3,2,41,-50,22,4, 3c 5]")
	// Wherever a crash cuts the file, the session is one of those that were reached.
	for cut := range len(f.Bytes) + 1 {
		n := 0
		for n+1 < len(lengths) && lengths[n+1] <= cut {
			n++
		}
		g, y, e := room.Resume(s, example.Extract(), api.File{Bytes: f.Bytes[:cut], Pending: []byte{9}})
		want(t, fmt.Sprint("cut at ", cut), e, api.OK)
		want(t, fmt.Sprint("session of ", cut), y, sessions[n])
		want(t, fmt.Sprint("file of ", cut), g, api.File{Bytes: f.Bytes[:lengths[n]]})
	}
}

// TestWriteErrors is about P24.4: errors of files.
func TestWriteErrors(t *testing.T) {
	s, x := example.Schema(), some(t)
	for _, c := range []struct {
		f api.File
		e api.Errno
	}{{api.File{Bytes: []byte{1}}, api.ErrTorn}, {api.File{Pending: make([]byte, api.MaxFile)}, api.ErrFull}} {
		f, y, e := room.Write(s, c.f, x, undo)
		want(t, "write", fmt.Sprint(e, len(f.Bytes), len(f.Pending)), fmt.Sprint(c.e, len(c.f.Bytes), len(c.f.Pending)))
		want(t, "session", y, x)
	}
	f, _, _ := room.Write(s, api.File{}, x, undo)
	g, y, e := room.Resume(s, api.Extract{}, f)
	want(t, "no extract", fmt.Sprint(g, y, e), fmt.Sprint(f, api.Session{}, api.ErrName))
	g, y, e = room.Resume(s, example.Extract(), f)
	want(t, "a payload that cannot be carried out", fmt.Sprint(g, y, e), fmt.Sprint(f, api.Session{}, api.ErrForm))
	bad, _ := journal.Append(api.File{}, []byte("9"))
	bad = journal.Sync(bad)
	bad.Pending = []byte{7}
	g, y, e = room.Resume(s, example.Extract(), bad)
	want(t, "no payload", fmt.Sprint(g, y, e), fmt.Sprint(bad, api.Session{}, api.ErrForm))
}
