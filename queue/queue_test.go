package queue_test

import (
	"bytes"
	"fmt"
	"math"
	"slices"
	"strings"
	"testing"

	"dataenclave/api"
	"dataenclave/journal"
	"dataenclave/queue"
)

func want(t *testing.T, name string, got, want any) {
	t.Helper()
	if fmt.Sprintf("%+v", got) != fmt.Sprintf("%+v", want) {
		t.Errorf("%s: got %+v, want %+v", name, got, want)
	}
}

func some() api.Output {
	return api.Output{Number: 1, Project: "trial", Researcher: "cyd", Time: 300, Text: "a\x00\xff", State: 3, Signatures: []api.Signature{{Person: "ann", Time: 301}, {Person: "bob", Time: api.MaxTime}}}
}

func with(change func(x *api.Output)) api.Output {
	x := some()
	change(&x)
	return x
}

func numbered(number, state int) api.Output {
	return with(func(x *api.Output) { x.Number, x.State = number, state })
}

// TestValid is about P35.1.
func TestValid(t *testing.T) {
	type x = api.Output
	for i, change := range []func(x *x){
		func(x *x) {}, func(x *x) { x.Number = api.MaxQueue }, func(x *x) { x.Time = 0 }, func(x *x) { x.Time = api.MaxTime }, func(x *x) { x.Text = "" }, func(x *x) { x.Text = strings.Repeat("x", api.MaxRecord/4) }, func(x *x) { x.State = 1 }, func(x *x) { x.State = 6 }, func(x *x) { x.Signatures = nil }, func(x *x) { x.Signatures[1] = x.Signatures[0] }, func(x *x) { x.Signatures[0].Time = 0 },
	} {
		o := with(change)
		want(t, fmt.Sprint("right ", i), queue.Valid(o), true)
		b, e := queue.Encode(o)
		want(t, "encode", e, api.OK)
		back, e := queue.Decode(b)
		want(t, fmt.Sprint("there and back ", i), fmt.Sprint(back, e), fmt.Sprint(o, api.OK))
	}
	for i, change := range []func(x *x){
		func(x *x) { x.Number = 0 }, func(x *x) { x.Number = api.MaxQueue + 1 }, func(x *x) { x.Number = math.MinInt }, func(x *x) { x.Project = "" }, func(x *x) { x.Project = "to" }, func(x *x) { x.Researcher = "Cyd" }, func(x *x) { x.Time = -1 }, func(x *x) { x.Time = api.MaxTime + 1 }, func(x *x) { x.Text = strings.Repeat("x", api.MaxRecord/4+1) }, func(x *x) { x.State = 0 }, func(x *x) { x.State = 7 },
		func(x *x) { x.Signatures = append(x.Signatures, x.Signatures[0]) }, func(x *x) { x.Signatures[1].Person = "" }, func(x *x) { x.Signatures[0].Time = -1 }, func(x *x) { x.Signatures[1].Time = api.MaxTime + 1 },
	} {
		o := with(change)
		want(t, fmt.Sprint("wrong ", i), queue.Valid(o), false)
		b, e := queue.Encode(o)
		want(t, fmt.Sprint("wrong ", i), fmt.Sprint(b, e), fmt.Sprint([]byte{}, api.ErrForm))
		f := api.File{Bytes: []byte{1}}
		g, e := queue.Put(f, o)
		want(t, fmt.Sprint("put ", i), fmt.Sprint(g, e), fmt.Sprint(f, api.ErrForm))
	}
}

// TestBytes is about P35.1: the bytes, one by one.
func TestBytes(t *testing.T) {
	b, e := queue.Encode(some())
	text := func(s string) []byte { return append([]byte{0, 0, 0, 0, byte(len(s))}, s...) }
	should := slices.Concat([]byte{0, 0, 0, 0, 1}, text("trial"), text("cyd"), []byte{0, 0, 0, 1, 44}, text("a\x00\xff"), []byte{0, 0, 0, 0, 3}, []byte{0, 0, 0, 0, 2}, text("ann"), []byte{0, 0, 0, 1, 45}, text("bob"), []byte{0, 64, 0, 0, 0})
	want(t, "bytes", fmt.Sprint(b, e), fmt.Sprint(should, api.OK))
	for n := range b {
		x, e := queue.Decode(b[:n])
		want(t, fmt.Sprint("the first ", n), fmt.Sprint(x, e), fmt.Sprint(api.Output{}, api.ErrForm))
	}
	_, e = queue.Decode(append(slices.Clone(b), 0))
	want(t, "a byte too many", e, api.ErrForm)
	for _, c := range [][2]int{{0, 1}, {4, 9}, {5, 1}, {9, 200}, {10, 'T'}, {len(b) - 5, 1}} {
		wrong := slices.Clone(b)
		wrong[c[0]] = byte(c[1])
		x, e := queue.Decode(wrong)
		if c[0] != 4 {
			want(t, fmt.Sprint("changed ", c), fmt.Sprint(x, e), fmt.Sprint(api.Output{}, api.ErrForm))
		} else {
			want(t, "another number", fmt.Sprint(x.Number, e), "9 0")
		}
	}
	many := slices.Concat([]byte{0, 0, 0, 0, 1}, text("p"), text("r"), make([]byte, 10), []byte{0, 0, 0, 0, 1}, []byte{255, 255, 255, 255, 255})
	_, e = queue.Decode(many)
	want(t, "many signatures", e, api.ErrForm)
	_, e = queue.Decode(nil)
	want(t, "nothing", e, api.ErrForm)
}

// TestPutAndLoad is about P35.2 and P35.3.
func TestPutAndLoad(t *testing.T) {
	var f api.File
	var l []api.Output
	for i, x := range []api.Output{numbered(1, 1), numbered(2, 1), numbered(1, 2), numbered(3, 1), numbered(3, 4), numbered(2, 6)} {
		g, e := queue.Put(f, x)
		want(t, fmt.Sprint("put ", i), fmt.Sprint(e, len(g.Pending)), "0 0")
		b, _ := queue.Encode(x)
		frame, _ := journal.Frame(b)
		want(t, "file", g.Bytes, append(slices.Clone(f.Bytes), frame...))
		if x.Number > len(l) {
			l = append(l, x)
		} else {
			l[x.Number-1] = x
		}
		h, got, e := queue.Load(g)
		want(t, fmt.Sprint("load ", i), fmt.Sprintf("%+v %d", got, e), fmt.Sprintf("%+v %d", l, api.OK))
		want(t, "file", h, g)
		for _, keep := range []int{0, 3, len(frame) - 1} { // a crash within the record
			torn := journal.Crash(api.File{Bytes: f.Bytes, Pending: frame}, keep)
			h, _, e := queue.Load(torn)
			want(t, "as before", fmt.Sprint(h, e), fmt.Sprint(f, api.OK))
			h, e = queue.Put(torn, x)
			if keep > 0 {
				want(t, "torn", fmt.Sprint(h, e), fmt.Sprint(torn, api.ErrTorn))
			}
		}
		f = g
	}
	_, got, e := queue.Load(api.File{})
	want(t, "an empty queue", fmt.Sprint(got, e), "[] 0")
}

// synced makes a file of payloads.
func synced(payloads ...[]byte) api.File {
	var f api.File
	for _, p := range payloads {
		f, _ = journal.Append(f, p)
	}
	return journal.Sync(f)
}

// TestErrors is about P35.2 and P35.3: errors, of which the first one counts.
func TestErrors(t *testing.T) {
	one, _ := queue.Encode(numbered(1, 1))
	three, _ := queue.Encode(numbered(3, 1))
	full := api.File{Bytes: synced([]byte{1}).Bytes, Pending: make([]byte, api.MaxFile)}
	for i, c := range []struct {
		f         api.File
		x         api.Output
		put, load api.Errno
	}{
		{api.File{Bytes: []byte{1}}, numbered(2, 1), api.ErrTorn, api.OK},
		{full, numbered(9, 1), api.ErrFull, api.ErrForm},
		{synced([]byte{1}), numbered(9, 1), api.ErrForm, api.ErrForm},
		{synced(one, three), numbered(9, 1), api.ErrNumber, api.ErrNumber},
		{synced(one, three, []byte{1}), numbered(1, 1), api.ErrNumber, api.ErrNumber},
		{synced(one, []byte{1}, three), numbered(1, 1), api.ErrForm, api.ErrForm},
		{synced(three), numbered(1, 1), api.ErrNumber, api.ErrNumber},
		{synced(), numbered(2, 1), api.ErrNumber, api.OK},
		{synced(one), numbered(3, 1), api.ErrNumber, api.OK},
		{synced(one), numbered(2, 1), api.OK, api.OK},
		{synced(one), numbered(1, 1), api.OK, api.OK},
	} {
		g, e := queue.Put(c.f, c.x)
		want(t, fmt.Sprint("put ", i), e, c.put)
		if e != api.OK {
			want(t, "as it is", bytes.Equal(g.Bytes, c.f.Bytes) && bytes.Equal(g.Pending, c.f.Pending), true)
		}
		h, l, e := queue.Load(c.f)
		want(t, fmt.Sprint("load ", i), e, c.load)
		if e != api.OK {
			want(t, "nothing", fmt.Sprint(h, l), fmt.Sprint(api.File{}, []api.Output{}))
		}
	}
}

// TestPending is about P35.2: what is still pending is synced, and does not count as an output before.
func TestPending(t *testing.T) {
	one, _ := queue.Encode(numbered(1, 1))
	f, _ := journal.Append(api.File{}, one)
	g, e := queue.Put(f, numbered(2, 1))
	want(t, "it does not count", fmt.Sprint(g, e), fmt.Sprint(f, api.ErrNumber))
	g, e = queue.Put(f, numbered(1, 4))
	want(t, "but is synced", fmt.Sprint(len(g.Pending), e), "0 0")
	_, l, e := queue.Load(g)
	want(t, "the last one", fmt.Sprintf("%+v %d", l, e), fmt.Sprintf("%+v %d", []api.Output{numbered(1, 4)}, api.OK))
	want(t, "two records", len(g.Bytes), 2*len(f.Pending))
}
