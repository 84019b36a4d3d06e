package queue

import "dataenclave/api"

// numberBytes is how many bytes a number has.
const numberBytes = 5

// field is a part of an output, as it is written and read.
type field struct {
	write func(x api.Output, w *writer)
	read  func(x *api.Output, r *reader)
}

// fields returns the parts of an output, in order.
func fields() []field {
	return []field{
		{func(x api.Output, w *writer) { w.number(x.Number) }, func(x *api.Output, r *reader) { x.Number = r.number() }},
		{func(x api.Output, w *writer) { w.text(x.Project) }, func(x *api.Output, r *reader) { x.Project = r.text() }},
		{func(x api.Output, w *writer) { w.text(x.Researcher) }, func(x *api.Output, r *reader) { x.Researcher = r.text() }},
		{func(x api.Output, w *writer) { w.number(x.Time) }, func(x *api.Output, r *reader) { x.Time = r.number() }},
		{func(x api.Output, w *writer) { w.text(x.Text) }, func(x *api.Output, r *reader) { x.Text = r.text() }},
		{func(x api.Output, w *writer) { w.number(x.State) }, func(x *api.Output, r *reader) { x.State = r.number() }},
		{func(x api.Output, w *writer) { w.signatures(x.Signatures) }, func(x *api.Output, r *reader) { x.Signatures = r.signatures() }},
	}
}

// Encode returns the bytes of a valid output.
func Encode(x api.Output) ([]byte, api.Errno) {
	if !Valid(x) {
		return nil, api.ErrForm
	}
	var w writer
	for _, f := range fields() {
		f.write(x, &w)
	}
	return w.bytes, api.OK
}

// Decode returns the valid output with some bytes.
func Decode(b []byte) (api.Output, api.Errno) {
	var x api.Output
	r := reader{rest: b}
	for _, f := range fields() {
		f.read(&x, &r)
	}
	if r.short || len(r.rest) > 0 || !Valid(x) {
		return api.Output{}, api.ErrForm
	}
	return x, api.OK
}

// writer collects bytes.
type writer struct{ bytes []byte }

func (w *writer) number(n int) {
	for i := numberBytes - 1; i >= 0; i-- {
		w.bytes = append(w.bytes, byte(n>>(8*i)))
	}
}

func (w *writer) text(s string) {
	w.number(len(s))
	w.bytes = append(w.bytes, s...)
}

func (w *writer) signatures(l []api.Signature) {
	w.number(len(l))
	for _, s := range l {
		w.text(s.Person)
		w.number(s.Time)
	}
}

// reader takes bytes from the front; short says that there were too few.
type reader struct {
	rest  []byte
	short bool
}

// take takes n bytes.
func (r *reader) take(n int) []byte {
	if r.short || n > len(r.rest) {
		r.short = true
		return nil
	}
	b := r.rest[:n]
	r.rest = r.rest[n:]
	return b
}

func (r *reader) number() int {
	n := 0
	for _, b := range r.take(numberBytes) {
		n = n<<8 | int(b)
	}
	return n
}

func (r *reader) text() string { return string(r.take(r.number())) }

func (r *reader) signatures() []api.Signature {
	var l []api.Signature
	for n := r.number(); n > 0 && !r.short; n-- {
		l = append(l, api.Signature{Person: r.text(), Time: r.number()})
	}
	return l
}
