package declaration

import (
	"strconv"
	"strings"

	"dataenclave/api"
	"dataenclave/condition"
	"dataenclave/schema"
	"dataenclave/text"
)

// Print returns the text of a declaration.
func Print(s api.Schema, d api.Declaration) (string, api.Errno) {
	book, e := schema.Open(s)
	if e == api.OK {
		e = CheckIn(book, d)
	}
	if e != api.OK {
		return "", e
	}
	all := "project " + d.Project + "\nsource " + d.Source + "\ncohort " + condText(book, d.Cohort) + "\n"
	all += text.Line([]string{"sample", strconv.Itoa(d.Sample.Part), "of", strconv.Itoa(d.Sample.Of), "seed", strconv.Itoa(d.Sample.Seed)})
	for _, q := range d.Questions {
		all += questionText(book, q)
	}
	if len(all) > api.MaxText {
		return "", api.ErrLimit
	}
	return all, api.OK
}

// condText returns the text of a condition that is right.
func condText(b schema.Book, c api.Cond) string {
	x, _ := condition.Open(b, c)
	return x.Print()
}

func questionText(b schema.Book, q api.Question) string {
	var words []string
	switch q.Kind {
	case api.AskTable:
		words = []string{"table", q.Name, "by"}
		for _, dim := range q.Dims {
			words = append(words, b.Columns[dim.Column].Name+"/"+strconv.Itoa(dim.Level))
		}
		if q.Measure != -1 {
			words = append(words, "sum", b.Columns[q.Measure].Name)
		}
	case api.AskModel:
		words = []string{"model", q.Name, "of", b.Columns[q.Measure].Name, "on"}
		for _, term := range q.Terms {
			words = append(words, b.Columns[term].Name)
		}
	case api.AskCurve:
		words = []string{"curve", q.Name, "of", b.Columns[q.Measure].Name, "event", condText(b, q.Event)}
	}
	return text.Line(append(words, "where", condText(b, q.Filter)))
}

// Parse returns the declaration with a text, and 0, or the number of a line with an error.
func Parse(s api.Schema, text string) (api.Declaration, int, api.Errno) {
	book, e := schema.Open(s)
	if e != api.OK {
		return api.Declaration{}, 0, e
	}
	if len(text) > api.MaxText {
		return api.Declaration{}, 0, api.ErrLimit
	}
	r := reader{book: book}
	if number := r.read(text); number > 0 {
		return api.Declaration{}, number, api.ErrForm
	}
	if e := CheckIn(book, r.made); e != api.OK {
		return api.Declaration{}, 0, e
	}
	return r.made, 0, api.OK
}

// reader reads a declaration line by line.
type reader struct {
	book schema.Book
	made api.Declaration
}

// read returns the number of the first line that is wrong, 0 if none is.
func (r *reader) read(all string) int {
	first := r.first()
	at := 1
	for ; all != ""; at++ {
		line, behind, ended := strings.Cut(all, "\n")
		reads := r.question
		if at <= len(first) {
			reads = first[at-1]
		}
		if !ended || !reads(line) {
			return at
		}
		all = behind
	}
	if at <= len(first) {
		return at
	}
	return 0
}

// first returns what reads the lines that stand before the questions.
func (r *reader) first() []func(line string) bool {
	return []func(line string) bool{
		func(line string) bool { return name(line, "project", &r.made.Project) },
		func(line string) bool { return name(line, "source", &r.made.Source) },
		func(line string) bool {
			cohort, ok := strings.CutPrefix(line, "cohort ")
			return ok && r.cond(cohort, &r.made.Cohort)
		},
		func(line string) bool {
			words := text.Words(line)
			return len(words) == 6 && words[0] == "sample" && words[2] == "of" && words[4] == "seed" &&
				number(words[1], &r.made.Sample.Part) && number(words[3], &r.made.Sample.Of) && number(words[5], &r.made.Sample.Seed)
		},
	}
}

// name reads a line of a word and a name.
func name(line, word string, into *string) bool {
	words := text.Words(line)
	if len(words) != 2 || words[0] != word || words[1] == "where" {
		return false
	}
	*into = words[1]
	return true
}

func number(word string, into *int) bool {
	n, ok := text.Natural(word)
	*into = n
	return ok
}

// cond reads a condition.
func (r *reader) cond(s string, into *api.Cond) bool {
	c, ok := condition.Read(r.book, s)
	*into = c
	return ok
}

// column reads the name of a column.
func (r *reader) column(word string, into *int) bool {
	*into = schema.Find(r.book.Schema, word)
	return *into >= 0
}

// question reads the line of a question. No name and no condition has the word where in it.
func (r *reader) question(line string) bool {
	head, filter, ok := strings.Cut(line, " where ")
	words := text.Words(head)
	if !ok || len(words) < 4 {
		return false
	}
	q := api.Question{Name: words[1]}
	var parts func(words []string, q *api.Question) bool
	switch words[0] + " " + words[2] {
	case "table by":
		parts = r.table
	case "model of":
		parts = r.model
	case "curve of":
		parts = r.curve
	default:
		return false
	}
	ok = parts(words[3:], &q) && r.cond(filter, &q.Filter)
	r.made.Questions = append(r.made.Questions, q)
	return ok
}

func (r *reader) table(words []string, q *api.Question) bool {
	q.Kind, q.Measure = api.AskTable, -1
	if n := len(words); n > 2 && words[n-2] == "sum" {
		if !r.column(words[n-1], &q.Measure) {
			return false
		}
		words = words[:n-2]
	}
	for _, word := range words {
		var dim api.Pick
		column, level, ok := strings.Cut(word, "/")
		if !ok || !r.column(column, &dim.Column) || !number(level, &dim.Level) {
			return false
		}
		q.Dims = append(q.Dims, dim)
	}
	return len(words) <= api.MaxDims
}

func (r *reader) model(words []string, q *api.Question) bool {
	q.Kind = api.AskModel
	if len(words) < 3 || words[1] != "on" || !r.column(words[0], &q.Measure) {
		return false
	}
	for _, word := range words[2:] {
		term := 0
		if !r.column(word, &term) {
			return false
		}
		q.Terms = append(q.Terms, term)
	}
	return len(q.Terms) <= api.MaxTerms
}

func (r *reader) curve(words []string, q *api.Question) bool {
	q.Kind = api.AskCurve
	if len(words) < 3 || words[1] != "event" || !r.column(words[0], &q.Measure) {
		return false
	}
	return r.cond(strings.Join(words[2:], " "), &q.Event)
}
