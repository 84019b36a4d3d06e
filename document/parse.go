package document

import (
	"strings"

	"dataenclave/api"
	"dataenclave/fraction"
	"dataenclave/text"
)

// Parse returns the name and what is told by a text, and 0, or the number of a line with an error.
func Parse(text string) (string, api.Value, int, api.Errno) {
	if len(text) > api.MaxText {
		return "", api.Value{}, 0, api.ErrLimit
	}
	r := reader{rest: text}
	name := r.output()
	if !r.wrong && r.rest != "" {
		r.number++
		r.wrong = true
	}
	if r.wrong {
		return "", api.Value{}, r.number, api.ErrForm
	}
	return name, r.told, 0, api.OK
}

// reader reads a text line by line, up to the first one that is wrong.
type reader struct {
	rest   string
	number int // of the line that was read last
	wrong  bool
	told   api.Value
}

// words returns the words of the next line behind its first word.
func (r *reader) words(first string) []string {
	if r.wrong {
		return nil
	}
	r.number++
	line, rest, ended := strings.Cut(r.rest, "\n")
	words := text.Words(line)
	r.need(ended && len(words) > 0 && words[0] == first)
	if r.wrong {
		return nil
	}
	r.rest = rest
	return words[1:]
}

// need marks the line that was read last as wrong if something does not hold.
func (r *reader) need(holds bool) { r.wrong = r.wrong || !holds }

// output reads all lines, and returns the name.
func (r *reader) output() string {
	kinds := map[string]func(){
		"number": r.fraction,
		"table":  r.table,
		"model":  r.model,
		"curve":  r.curve,
		"hist":   r.hist,
		"box":    r.box,
	}
	words := r.words("output")
	if len(words) != 2 || !text.Name(words[0]) || kinds[words[1]] == nil {
		r.need(false)
		return ""
	}
	kinds[words[1]]()
	return words[0]
}

// wholes returns the numbers of some words, if there are n.
func (r *reader) wholes(words []string, n int) []int {
	r.need(len(words) == n)
	l := make([]int, n)
	for i := 0; i < n && !r.wrong; i++ {
		value, ok := text.Decimal(words[i])
		r.need(ok && whole(value))
		l[i] = value
	}
	return l
}

// fractions returns the fractions of some words, if there are n.
func (r *reader) fractions(words []string, n int) []api.Frac {
	r.need(len(words) == n)
	l := make([]api.Frac, n)
	for i := 0; i < n && !r.wrong; i++ {
		num, den, found := strings.Cut(words[i], "/")
		a, ok := text.Decimal(num)
		b, also := text.Decimal(den)
		l[i] = api.Frac{Num: a, Den: b}
		r.need(found && ok && also && fraction.Valid(l[i]))
	}
	return l
}

func (r *reader) fraction() {
	r.told = api.Value{Kind: api.KindNumber, Number: r.fractions(r.words("value"), 1)[0]}
}

func (r *reader) table() {
	t := api.Table{Measure: r.wholes(r.words("measure"), 1)[0]}
	dims := r.words("dims")
	r.need(len(dims) > 0 && len(dims) <= api.MaxDims)
	for _, word := range dims {
		column, level, found := strings.Cut(word, "/")
		r.need(found)
		l := r.wholes([]string{column, level}, 2)
		t.Dims = append(t.Dims, api.Pick{Column: l[0], Level: l[1]})
	}
	for !r.wrong && r.rest != "" {
		t.Cells = append(t.Cells, r.cell(len(dims)))
		r.need(len(t.Cells) <= api.MaxCells)
	}
	r.told = api.Value{Kind: api.KindTable, Table: t}
}

// cell reads the cell of a table with n dimensions.
func (r *reader) cell(n int) api.TableCell {
	words := r.words("cell")
	r.need(len(words) == n+4 && words[n] == "count" && words[n+2] == "sum")
	if r.wrong {
		return api.TableCell{}
	}
	return api.TableCell{Codes: r.wholes(words[:n], n), Count: r.wholes(words[n+1:n+2], 1)[0], Sum: r.wholes(words[n+3:], 1)[0]}
}

func (r *reader) model() {
	m := api.Model{Measure: r.wholes(r.words("measure"), 1)[0]}
	terms := r.words("terms")
	r.need(len(terms) <= api.MaxTerms)
	m.Terms = r.wholes(terms, len(terms))
	m.Coefs = r.fractions(r.words("coefs"), len(terms)+1)
	m.Residual = r.fractions(r.words("residual"), 1)[0]
	m.Total = r.fractions(r.words("total"), 1)[0]
	words := r.words("count")
	r.need(len(words) == 3 && words[1] == "free")
	if !r.wrong {
		m.Count, m.Free = r.wholes(words[:1], 1)[0], r.wholes(words[2:], 1)[0]
	}
	r.told = api.Value{Kind: api.KindModel, Model: m}
}

func (r *reader) curve() {
	var l []api.CurveStep
	for !r.wrong && r.rest != "" {
		words := r.words("step")
		r.need(len(words) == 5 && len(l) < api.MaxRows)
		if !r.wrong {
			n := r.wholes(words[:4], 4)
			l = append(l, api.CurveStep{Time: n[0], AtRisk: n[1], Events: n[2], Left: n[3], Survive: r.fractions(words[4:], 1)[0]})
		}
	}
	r.told = api.Value{Kind: api.KindCurve, Curve: l}
}

func (r *reader) hist() {
	var l []api.Bin
	for !r.wrong && r.rest != "" {
		n := r.wholes(r.words("bin"), 2)
		l = append(l, api.Bin{Low: n[0], Count: n[1]})
		r.need(len(l) <= api.MaxRows)
	}
	r.told = api.Value{Kind: api.KindHist, Hist: l}
}

func (r *reader) box() {
	n := r.wholes(r.words("box"), 6)
	r.told = api.Value{Kind: api.KindBox, Box: api.Box{Count: n[0], Least: n[1], Lower: n[2], Middle: n[3], Upper: n[4], Greatest: n[5]}}
}
