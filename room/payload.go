package room

import (
	"bytes"
	"slices"
	"strconv"
	"strings"

	"dataenclave/api"
	"dataenclave/journal"
	"dataenclave/program"
	"dataenclave/text"
)

// Payload returns the payload of a command that Apply would carry out.
func Payload(s api.Schema, x api.Session, c api.Command) ([]byte, api.Errno) {
	if _, e := Apply(s, x, c); e != api.OK {
		return nil, e
	}
	payload := strconv.Itoa(c.Kind)
	switch c.Kind {
	case api.CommandLet:
		all, e := program.Print(s, slices.Concat(x.Program, []api.Statement{c.Statement}))
		if e != api.OK {
			return nil, e
		}
		lines := strings.SplitAfter(all, "\n")
		payload += lines[len(lines)-2] // nothing stands behind the last line feed
	case api.CommandAsk:
		payload += c.Name
	case api.CommandChange:
		payload += changeText(c.Change)
	}
	if len(payload) > api.MaxRecord {
		return nil, api.ErrLimit
	}
	return []byte(payload), api.OK
}

// changeText returns the numbers of a change, with a comma behind each one.
func changeText(c api.Change) string {
	numbers := slices.Concat([]int{c.Version, len(c.Gone)}, c.Gone, []int{len(c.Rows)})
	for _, row := range c.Rows {
		numbers = append(numbers, len(row))
		numbers = append(numbers, row...)
	}
	var b strings.Builder
	for _, n := range numbers {
		b.WriteString(strconv.Itoa(n) + ",")
	}
	return b.String()
}

// Command returns the command with a payload.
func Command(s api.Schema, x api.Session, b []byte) (api.Command, api.Errno) {
	if e := Check(s, x); e != api.OK {
		return api.Command{}, e
	}
	c, ok := read(s, x, string(b))
	if !ok {
		return api.Command{}, api.ErrForm
	}
	if payload, e := Payload(s, x, c); e != api.OK || !bytes.Equal(payload, b) {
		return api.Command{}, api.ErrForm
	}
	return c, api.OK
}

// read returns the command that a payload can be of.
func read(s api.Schema, x api.Session, payload string) (api.Command, bool) {
	if payload == "" {
		return api.Command{}, false
	}
	c := api.Command{Kind: int(payload[0] - '0')}
	ok := true
	switch rest := payload[1:]; c.Kind {
	case api.CommandLet:
		c.Statement, ok = readStatement(s, x.Program, rest)
	case api.CommandAsk:
		c.Name = rest
	case api.CommandChange:
		c.Change, ok = readChange(rest)
	}
	return c, ok
}

// readStatement returns the statement of a line behind a program.
func readStatement(s api.Schema, before []api.Statement, line string) (api.Statement, bool) {
	all, e := program.Print(s, before)
	if e != api.OK {
		return api.Statement{}, false
	}
	l, _, e := program.Parse(s, all+line)
	if e != api.OK || len(l) != len(before)+1 {
		return api.Statement{}, false
	}
	return l[len(before)], true
}

// numbers reads numbers that have a comma behind them.
type numbers struct {
	rest string
	ok   bool
}

func (r *numbers) next() int {
	word, rest, found := strings.Cut(r.rest, ",")
	n, ok := text.Number(word)
	r.rest, r.ok = rest, r.ok && found && ok
	return n
}

// list reads how many numbers there are, and these.
func (r *numbers) list() []int {
	var l []int
	for n := r.next(); n > 0 && r.ok; n-- {
		l = append(l, r.next())
	}
	return l
}

func readChange(s string) (api.Change, bool) {
	r := numbers{rest: s, ok: true}
	c := api.Change{Version: r.next(), Gone: r.list()}
	for n := r.next(); n > 0 && r.ok; n-- {
		c.Rows = append(c.Rows, r.list())
	}
	return c, r.ok && r.rest == ""
}

// Write carries out a command, and makes its payload safe in a file.
func Write(s api.Schema, f api.File, x api.Session, c api.Command) (api.File, api.Session, api.Errno) {
	next, e := Apply(s, x, c)
	if e != api.OK {
		return f, x, e
	}
	payload, e := Payload(s, x, c)
	if e != api.OK {
		return f, x, e
	}
	g, e := journal.Append(f, payload)
	if e != api.OK {
		return f, x, e
	}
	return journal.Sync(g), next, api.OK
}

// Resume recovers a file, and returns the session behind all its commands.
func Resume(s api.Schema, e api.Extract, f api.File) (api.File, api.Session, api.Errno) {
	x, err := New(s, e)
	if err != api.OK {
		return f, api.Session{}, err
	}
	g, payloads := journal.Recover(f)
	for _, payload := range payloads {
		c, err := Command(s, x, payload)
		if err != api.OK {
			return f, api.Session{}, err
		}
		x, _ = Apply(s, x, c) // Command has made sure that it can be carried out
	}
	return g, x, api.OK
}
