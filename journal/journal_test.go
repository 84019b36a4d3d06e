package journal_test

import (
	"bytes"
	"fmt"
	"math"
	"math/rand"
	"slices"
	"testing"

	"dataenclave/api"
	"dataenclave/journal"
)

func want(t *testing.T, name string, got, want any) {
	t.Helper()
	if fmt.Sprint(got) != fmt.Sprint(want) {
		t.Errorf("%s: got %v, want %v", name, got, want)
	}
}

// frame makes a frame in another way.
func frame(payload []byte) []byte {
	n := len(payload)
	b := append([]byte{byte(n >> 24), byte(n >> 16), byte(n >> 8), byte(n)}, payload...)
	sum := 0
	for i := range b {
		sum += (i + 1) * int(b[i])
	}
	sum %= 65521
	return append(b, 0, 0, byte(sum>>8), byte(sum))
}

func long(n int, x byte) []byte { return bytes.Repeat([]byte{x}, n) }

// TestFrame is about P23.1.
func TestFrame(t *testing.T) {
	b, e := journal.Frame([]byte{5})
	want(t, "the chapter's example", fmt.Sprint(b, e), "[0 0 0 1 5 0 0 0 29] 0")
	for _, payload := range [][]byte{nil, {0}, {255, 255}, []byte("hello"), long(300, 7), long(4096, 255)} {
		before := slices.Clone(payload)
		b, e := journal.Frame(payload)
		want(t, "frame", fmt.Sprint(b, e), fmt.Sprint(frame(payload), api.OK))
		want(t, "it stays", payload, before)
	}
	b, e = journal.Frame(long(4097, 0))
	want(t, "too long", fmt.Sprint(b, e), fmt.Sprint([]byte{}, api.ErrLimit))
}

// TestRead is about P23.1: whole frames, and what is none.
func TestRead(t *testing.T) {
	a, b := frame([]byte{1, 2}), frame(nil)
	wrong := slices.Clone(a)
	wrong[len(wrong)-1]++
	high := slices.Clone(a)
	high[len(high)-4] = 1
	negative := append([]byte{255, 255, 255, 255}, make([]byte, 20)...)
	for _, c := range []struct {
		name     string
		b        []byte
		payloads [][]byte
		n        int
	}{
		{"nothing", nil, nil, 0},
		{"two frames", slices.Concat(a, b), [][]byte{{1, 2}, {}}, len(a) + len(b)},
		{"a frame that is cut", slices.Concat(a, a[:9]), [][]byte{{1, 2}}, len(a)},
		{"a length that is cut", slices.Concat(a, a[:3]), [][]byte{{1, 2}}, len(a)},
		{"a payload that is cut", slices.Concat(b, a[:5]), [][]byte{{}}, len(b)},
		{"a check value that is cut", slices.Concat(b, b[:7]), [][]byte{{}}, len(b)},
		{"a wrong check value before a right frame", slices.Concat(a, wrong, a), [][]byte{{1, 2}}, len(a)},
		{"a high byte of a check value", high, nil, 0},
		{"the longest payload", frame(long(4096, 3)), [][]byte{long(4096, 3)}, 4104},
		{"a payload that is too long", frame(long(4097, 3)), nil, 0},
		{"a great length", negative, nil, 0},
		{"zeros", make([]byte, 17), [][]byte{{}, {}}, 16},
	} {
		before := slices.Clone(c.b)
		payloads, n := journal.Read(c.b)
		want(t, c.name, fmt.Sprint(payloads, n), fmt.Sprint(c.payloads, c.n))
		want(t, "it stays", c.b, before)
	}
}

// TestAppend is about P23.2: errors, of which the first one counts, with the file as it is.
func TestAppend(t *testing.T) {
	a := frame([]byte{9, 9})
	f := api.File{Bytes: slices.Grow(slices.Clone(a), 50), Pending: slices.Grow([]byte{1, 2}, 50)}
	g, e := journal.Append(f, []byte{5})
	want(t, "append", fmt.Sprint(g, e), fmt.Sprint(api.File{Bytes: a, Pending: append([]byte{1, 2}, frame([]byte{5})...)}, api.OK))
	want(t, "it stays", fmt.Sprint(f, f.Pending[:5]), fmt.Sprint(api.File{Bytes: a, Pending: []byte{1, 2}}, []byte{1, 2, 0, 0, 0}))
	torn := api.File{Bytes: a[:5], Pending: long(api.MaxFile, 0)}
	full := api.File{Pending: long(api.MaxFile-9, 0)}
	for _, c := range []struct {
		name    string
		f       api.File
		payload []byte
		e       api.Errno
	}{
		{"too long before torn", torn, long(4097, 0), api.ErrLimit},
		{"torn before full", torn, nil, api.ErrTorn},
		{"full", full, []byte{1, 2}, api.ErrFull},
		{"just not full", full, []byte{1}, api.OK},
		{"full by both", api.File{Bytes: a, Pending: long(api.MaxFile-len(a)-8, 0)}, []byte{1}, api.ErrFull},
		{"just not full by both", api.File{Bytes: a, Pending: long(api.MaxFile-len(a)-8, 0)}, nil, api.OK},
	} {
		g, e := journal.Append(c.f, c.payload)
		want(t, c.name, e, c.e)
		if e != api.OK {
			want(t, c.name, g, c.f)
		}
	}
}

// TestSyncAndCrash is about P23.2.
func TestSyncAndCrash(t *testing.T) {
	f := api.File{Bytes: slices.Grow([]byte{1, 2}, 9), Pending: []byte{3, 4, 5}}
	want(t, "sync", journal.Sync(f), api.File{Bytes: []byte{1, 2, 3, 4, 5}})
	for keep, b := range map[int][]byte{math.MinInt: {1, 2}, -1: {1, 2}, 0: {1, 2}, 1: {1, 2, 3}, 3: {1, 2, 3, 4, 5}, 4: {1, 2, 3, 4, 5}, math.MaxInt: {1, 2, 3, 4, 5}} {
		want(t, fmt.Sprint("crash ", keep), journal.Crash(f, keep), api.File{Bytes: b})
	}
	want(t, "it stays", fmt.Sprint(f, f.Bytes[:4]), fmt.Sprint(api.File{Bytes: []byte{1, 2}, Pending: []byte{3, 4, 5}}, []byte{1, 2, 0, 0}))
}

// TestRecover is about P23.3.
func TestRecover(t *testing.T) {
	a := frame([]byte{5})
	f, payloads := journal.Recover(api.File{Bytes: slices.Concat(a, a[:8]), Pending: a})
	want(t, "the chapter's example", fmt.Sprint(f, payloads), fmt.Sprint(api.File{Bytes: a}, [][]byte{{5}}))
	f, payloads = journal.Recover(api.File{})
	want(t, "nothing", fmt.Sprint(f, payloads), fmt.Sprint(api.File{}, [][]byte{}))
}

// TestCrashes is about P23.2 and P23.3: what was synced is recovered, and what is recovered was appended.
func TestCrashes(t *testing.T) {
	r := rand.New(rand.NewSource(8))
	for range 200 {
		var f api.File
		var appended [][]byte
		synced := 0
		for range r.Intn(12) {
			payload := long(r.Intn(6), byte(r.Intn(256)))
			f, _ = journal.Append(f, payload)
			appended = append(appended, payload)
			if r.Intn(2) == 0 {
				f, synced = journal.Sync(f), len(appended)
			}
		}
		f = journal.Crash(f, r.Intn(40)-5)
		g, payloads := journal.Recover(f)
		want(t, "at least what was synced", len(payloads) >= synced && len(payloads) <= len(appended), true)
		want(t, "a beginning", payloads, appended[:len(payloads)])
		again, e := journal.Append(g, []byte{7})
		want(t, "one can go on", fmt.Sprint(len(again.Pending), e), "9 0")
	}
}
