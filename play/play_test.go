package play_test

import (
	"fmt"
	"strings"
	"testing"

	"dataenclave/api"
	"dataenclave/environment"
	"dataenclave/example"
	"dataenclave/journal"
	"dataenclave/play"
	"dataenclave/script"
)

func want(t *testing.T, name string, got, want any) {
	t.Helper()
	if fmt.Sprintf("%+v", got) != fmt.Sprintf("%+v", want) {
		t.Errorf("%s: got %+v, want %+v", name, got, want)
	}
}

func fresh(t *testing.T) api.Enclave {
	t.Helper()
	x, e := environment.New(example.People(), api.Rules{Least: 3, Percent: 90}, 7, 50)
	want(t, "new", e, api.OK)
	return x
}

func events(t *testing.T, text string) []api.Event {
	t.Helper()
	l, line, e := script.Parse(example.SmallSchema(), text)
	if e != api.OK {
		t.Fatal(text, line, e)
	}
	return l
}

// history has events of many kinds, some of which have errors.
func history() string {
	text := "2\noutput n number\nvalue 14/1\n"
	return example.Start() + "time 3\nlet p 1\nout n = count(all)\nlet p 2\nout n = count(all)\nlet m = 1\nundo p\nask p n\nask p m\nsubmit p n\nsubmit q n\nsign 1 ann " + text + "sign 1 ann " + text + "time 6\nsign 1 bob " + text + "release 1\nremove 3\nadd 90 1 1 30 -1099511627776\nreplace 4 1 1 5 5\nrefresh p\nsubmit p n\nrefuse 2 bob\nwithdraw 5\ndrop 1\nsupersede 1 2\nend p\nclose p\n"
}

// TestRun is about P44.1.
func TestRun(t *testing.T) {
	x, errors, e := play.Run(fresh(t), []api.Event{{Kind: api.EventTime, Number: 5}, {Kind: api.EventTime, Number: 3}})
	want(t, "the chapter's example", fmt.Sprint(x.Time, errors, e), fmt.Sprint(5, []api.Errno{api.OK, api.ErrTime}, api.OK))
	l := events(t, history())
	at := fresh(t)
	var should []api.Errno
	var right []api.Event
	for _, event := range l {
		next, e := environment.Step(at, event)
		at, should = next, append(should, e)
		if e == api.OK {
			right = append(right, event)
		}
	}
	x, errors, e = play.Run(fresh(t), l)
	want(t, "run", fmt.Sprintf("%+v %v %d", x, errors, e), fmt.Sprintf("%+v %v %d", at, should, api.OK))
	want(t, "with and without errors", fmt.Sprint(len(l)-len(right) > 4, len(right) > 20, len(x.Register)), "true true 2")
	again, errors, e := play.Run(fresh(t), right)
	want(t, "without those that have errors", fmt.Sprintf("%+v %d %d", again, len(errors), e), fmt.Sprintf("%+v %d %d", at, len(right), api.OK))
	x, errors, e = play.Run(at, nil)
	want(t, "nothing", fmt.Sprintf("%+v %v %d", x, errors, e), fmt.Sprintf("%+v [] 0", at))
}

// TestRunErrors is about P44.1.
func TestRunErrors(t *testing.T) {
	bad := fresh(t)
	bad.Margin = 0
	many := make([]api.Event, 201)
	x, errors, e := play.Run(bad, many)
	want(t, "not valid", fmt.Sprintf("%+v %v %d", x, errors, e), fmt.Sprintf("%+v [] %d", bad, api.ErrState))
	x, errors, e = play.Run(fresh(t), many)
	want(t, "201 events", fmt.Sprintf("%+v %v %d", x, errors, e), fmt.Sprintf("%+v [] %d", fresh(t), api.ErrLimit))
	x, errors, e = play.Run(fresh(t), many[1:])
	want(t, "200 events", fmt.Sprint(len(errors), errors[199], e), fmt.Sprint(200, api.ErrKind, api.OK))
}

// TestText is about P44.2.
func TestText(t *testing.T) {
	should, errs, _ := play.Run(fresh(t), events(t, history()))
	x, errors, line, e := play.Text(fresh(t), history())
	want(t, "text", fmt.Sprintf("%+v %v %d %d", x, errors, line, e), fmt.Sprintf("%+v %v %d %d", should, errs, 0, api.OK))
	bad := fresh(t)
	bad.Margin = 0
	for _, c := range []struct {
		x    api.Enclave
		text string
		line int
		e    api.Errno
	}{
		{bad, "x", 0, api.ErrState}, {fresh(t), "time 5\nx\n", 2, api.ErrForm}, {fresh(t), strings.Repeat("x", api.MaxText+1), 0, api.ErrLimit}, {fresh(t), strings.Repeat("time 5\n", 201), 201, api.ErrLimit},
	} {
		x, errors, line, e := play.Text(c.x, c.text)
		want(t, c.text[:1], fmt.Sprintf("%+v %v %d %d", x, errors, line, e), fmt.Sprintf("%+v [] %d %d", c.x, c.line, c.e))
	}
}

// TestWriteAndReplay is about P44.3: what is written is replayed, wherever a crash cuts the file.
func TestWriteAndReplay(t *testing.T) {
	var f api.File
	x := fresh(t)
	reached, lengths := []api.Enclave{x}, []int{0}
	for i, event := range events(t, history()) {
		should, err := environment.Step(x, event)
		g, y, e := play.Write(f, x, event)
		want(t, fmt.Sprint("write ", i), e, err)
		if e != api.OK {
			want(t, "as it is", fmt.Sprintf("%+v %+v", g, y), fmt.Sprintf("%+v %+v", f, x))
			continue
		}
		want(t, "the environment", y, should)
		var before []api.Statement
		for _, p := range x.Projects {
			if p.Declaration.Project == event.Project {
				before = p.Session.Program
			}
		}
		lines, _ := script.Print(x.First.Schema, before, event)
		frame, _ := journal.Frame([]byte(lines))
		want(t, "the file", fmt.Sprint(g), fmt.Sprint(api.File{Bytes: append(append([]byte{}, f.Bytes...), frame...)}))
		f, x = g, y
		reached, lengths = append(reached, x), append(lengths, len(f.Bytes))
	}
	want(t, "some were written", len(lengths) > 20, true)
	for n, length := range lengths {
		for _, cut := range []int{length, length + 1, length + 9} {
			if n+1 == len(lengths) && cut > length {
				continue
			}
			g, y, count, e := play.Replay(fresh(t), api.File{Bytes: f.Bytes[:cut], Pending: []byte{1, 2}})
			want(t, fmt.Sprint("replay of ", n), fmt.Sprint(len(g.Bytes), len(g.Pending), count, e), fmt.Sprint(length, 0, n, api.OK))
			want(t, "the environment", y, reached[n])
		}
	}
}

// synced makes a file of payloads.
func synced(payloads ...string) api.File {
	var f api.File
	for _, p := range payloads {
		f, _ = journal.Append(f, []byte(p))
	}
	f = journal.Sync(f)
	f.Pending = []byte{7}
	return f
}

// TestWriteErrors is about P44.3.
func TestWriteErrors(t *testing.T) {
	x, _, _, _ := play.Text(fresh(t), example.Start())
	bad := x
	bad.Margin = 0
	time := api.Event{Kind: api.EventTime, Number: 9}
	odd := time
	odd.Project = "x"
	for i, c := range []struct {
		f api.File
		x api.Enclave
		e api.Event
		w api.Errno
	}{
		{api.File{Bytes: []byte{1}}, bad, odd, api.ErrState}, {api.File{Bytes: []byte{1}}, x, api.Event{}, api.ErrKind}, {api.File{Bytes: []byte{1}}, x, api.Event{Kind: api.EventTime}, api.ErrTime}, {api.File{Bytes: []byte{1}}, x, odd, api.ErrForm}, {api.File{Bytes: []byte{1}}, x, time, api.ErrTorn}, {api.File{Pending: make([]byte, api.MaxFile)}, x, time, api.ErrFull}, {api.File{Pending: []byte{5}}, x, time, api.OK},
	} {
		f, y, e := play.Write(c.f, c.x, c.e)
		want(t, fmt.Sprint("write ", i), e, c.w)
		if e != api.OK {
			want(t, "as it is", fmt.Sprint(len(f.Bytes), len(f.Pending), fmt.Sprintf("%+v", y) == fmt.Sprintf("%+v", c.x)), fmt.Sprint(len(c.f.Bytes), len(c.f.Pending), true))
		} else {
			want(t, "what was pending is safe", fmt.Sprint(f.Bytes[0], len(f.Pending), y.Time), "5 0 9")
		}
	}
	secret := api.Event{Kind: api.EventDeclare, Number: 1 << 50, Declaration: x.Projects[0].Declaration}
	empty := x
	empty.Projects = nil
	_, e := environment.Step(empty, secret)
	want(t, "a large secret", e, api.OK)
	_, y, e := play.Write(api.File{}, empty, secret)
	want(t, "has no line", fmt.Sprintf("%+v %d", y, e), fmt.Sprintf("%+v %d", empty, api.ErrRange))
}

// TestReplayErrors is about P44.3.
func TestReplayErrors(t *testing.T) {
	bad := fresh(t)
	bad.Margin = 0
	for i, c := range []struct {
		x api.Enclave
		f api.File
		e api.Errno
	}{
		{bad, synced("x"), api.ErrState}, {fresh(t), synced("time 5\n", "x"), api.ErrForm}, {fresh(t), synced(""), api.ErrForm}, {fresh(t), synced("time 5\ntime 6\n"), api.ErrForm}, {fresh(t), synced("let p 1\nlet a = 1\nlet b = 2\n"), api.ErrForm}, {fresh(t), synced("let p 1\nlet a = b\n"), api.ErrForm}, {fresh(t), synced("time 5\n", "time 3\n", "x"), api.ErrTime}, {fresh(t), synced("time 5\n", "x", "time 3\n"), api.ErrForm}, {fresh(t), synced("undo p\n"), api.ErrNumber},
	} {
		f, x, n, e := play.Replay(c.x, c.f)
		want(t, fmt.Sprint(i), fmt.Sprint(f, x, n, e), fmt.Sprint(c.f, api.Enclave{}, 0, c.e))
	}
	f, x, n, e := play.Replay(fresh(t), api.File{})
	want(t, "nothing", fmt.Sprintf("%v %+v %d %d", f, x, n, e), fmt.Sprintf("%v %+v %d %d", api.File{}, fresh(t), 0, api.OK))
}
