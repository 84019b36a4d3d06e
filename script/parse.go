package script

import (
	"strings"

	"dataenclave/api"
	"dataenclave/codes"
	"dataenclave/declaration"
	"dataenclave/program"
	"dataenclave/text"
)

// Parse returns the events of a script, and 0, or the number of the line at which an event with an error begins.
func Parse(s api.Schema, text string) ([]api.Event, int, api.Errno) {
	if len(text) > api.MaxText {
		return nil, 0, api.ErrLimit
	}
	var l []api.Event
	c := cursor{rest: text}
	for c.rest != "" {
		begin := c.lines + 1
		if len(l) == api.MaxEvents {
			return nil, begin, api.ErrLimit
		}
		e, err := c.event(s)
		if err != api.OK {
			return nil, begin, err
		}
		l = append(l, e)
	}
	return l, 0, api.OK
}

// cursor goes through a script line by line, and through the words of a line.
type cursor struct {
	rest  string
	lines int // that were taken
	words []string
	wrong bool
}

// line takes a line with its end, if there is one.
func (c *cursor) line() string {
	line, rest, ended := strings.Cut(c.rest, "\n")
	c.wrong = c.wrong || !ended
	c.rest = rest
	c.lines++
	return line + "\n"
}

// word takes a word, if there is one.
func (c *cursor) word() string {
	if len(c.words) == 0 {
		c.wrong = true
		return ""
	}
	word := c.words[0]
	c.words = c.words[1:]
	return word
}

func (c *cursor) name() string {
	word := c.word()
	c.wrong = c.wrong || !codes.Name(word)
	return word
}

func (c *cursor) number() int {
	n, ok := text.Number(c.word())
	c.wrong = c.wrong || !ok || !within(n)
	return n
}

// block takes as many lines as a number says.
func (c *cursor) block() string {
	n := c.number()
	c.wrong = c.wrong || n < 1
	var b strings.Builder
	for ; n > 0 && !c.wrong; n-- {
		b.WriteString(c.line())
	}
	return b.String()
}

// event takes the lines of an event.
func (c *cursor) event(s api.Schema) (api.Event, api.Errno) {
	c.words = text.Words(strings.TrimSuffix(c.line(), "\n"))
	first := c.word()
	e, ok := blank(first)
	if c.wrong || !ok {
		return api.Event{}, api.ErrForm
	}
	for _, p := range parts(&e, first) {
		if p.number == nil {
			*p.name = c.name()
		} else {
			*p.number = c.number()
		}
	}
	err := c.further(s, &e, first)
	if c.wrong || len(c.words) > 0 {
		return api.Event{}, api.ErrForm
	}
	return e, err
}

// further takes what stands behind the parts of a line: rows, and further lines.
func (c *cursor) further(s api.Schema, e *api.Event, first string) api.Errno {
	err := api.OK
	switch first {
	case "add", "replace":
		for len(c.words) > 0 {
			e.Edit.Row = append(e.Edit.Row, c.number())
		}
		c.wrong = c.wrong || len(e.Edit.Row) == 0 || len(e.Edit.Row) > api.MaxColumns
	case "sign":
		e.Text = c.block()
	case "declare":
		if lines := c.block(); !c.wrong {
			e.Declaration, _, err = declaration.Parse(s, lines)
		}
	case "let":
		if lines := c.block(); !c.wrong {
			var l []api.Statement
			l, _, err = program.Parse(s, lines)
			if err == api.OK {
				e.Command.Statement = l[len(l)-1] // there is at least one line, and so a statement
			}
		}
	}
	return err
}

// blank returns the event without anything but its kinds whose line begins with a word.
func blank(first string) (api.Event, bool) {
	for kind := api.EventTime; kind <= api.EventShift; kind++ {
		for part := range api.CommandClose + 1 {
			e := kinds(api.Event{Kind: kind, Edit: api.Edit{Kind: part}, Command: api.Command{Kind: part}})
			if first != "" && word(e) == first {
				return e, true
			}
		}
	}
	return api.Event{}, false
}
