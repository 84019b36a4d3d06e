package document

import (
	"strconv"
	"strings"

	"dataenclave/api"
	"dataenclave/text"
)

// Print returns the text of a value with a name.
func Print(name string, v api.Value) (string, api.Errno) {
	if !text.Name(name) {
		return "", api.ErrName
	}
	if !proper(v) {
		return "", api.ErrForm
	}
	var w writer
	switch v.Kind {
	case api.KindNumber:
		w.line("output", name, "number")
		w.line("value", frac(v.Number))
	case api.KindTable:
		w.line("output", name, "table")
		w.table(v.Table)
	case api.KindModel:
		w.line("output", name, "model")
		w.model(v.Model)
	case api.KindCurve:
		w.line("output", name, "curve")
		for _, x := range v.Curve {
			w.line(append(numbers("step", x.Time, x.AtRisk, x.Events, x.Left), frac(x.Survive))...)
		}
	case api.KindHist:
		w.line("output", name, "hist")
		for _, x := range v.Hist {
			w.line(numbers("bin", x.Low, x.Count)...)
		}
	case api.KindBox:
		w.line("output", name, "box")
		b := v.Box
		w.line(numbers("box", b.Count, b.Least, b.Lower, b.Middle, b.Upper, b.Greatest)...)
	}
	if w.all.Len() > api.MaxText {
		return "", api.ErrLimit
	}
	return w.all.String(), api.OK
}

// writer collects lines.
type writer struct{ all strings.Builder }

func (w *writer) line(words ...string) { w.all.WriteString(text.Line(words)) }

// numbers returns a word, and numbers behind it.
func numbers(word string, l ...int) []string {
	words := []string{word}
	for _, n := range l {
		words = append(words, strconv.Itoa(n))
	}
	return words
}

func frac(f api.Frac) string { return strconv.Itoa(f.Num) + "/" + strconv.Itoa(f.Den) }

func (w *writer) table(t api.Table) {
	w.line(numbers("measure", t.Measure)...)
	dims := []string{"dims"}
	for _, dim := range t.Dims {
		dims = append(dims, strconv.Itoa(dim.Column)+"/"+strconv.Itoa(dim.Level))
	}
	w.line(dims...)
	for _, c := range t.Cells {
		words := numbers("cell", c.Codes...)
		w.line(append(words, "count", strconv.Itoa(c.Count), "sum", strconv.Itoa(c.Sum))...)
	}
}

func (w *writer) model(m api.Model) {
	w.line(numbers("measure", m.Measure)...)
	w.line(numbers("terms", m.Terms...)...)
	coefs := []string{"coefs"}
	for _, f := range m.Coefs {
		coefs = append(coefs, frac(f))
	}
	w.line(coefs...)
	w.line("residual", frac(m.Residual))
	w.line("total", frac(m.Total))
	w.line("count", strconv.Itoa(m.Count), "free", strconv.Itoa(m.Free))
}
