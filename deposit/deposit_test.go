package deposit_test

import (
	"fmt"
	"strings"
	"testing"

	"dataenclave/api"
	"dataenclave/deposit"
	"dataenclave/example"
)

func want(t *testing.T, name string, got, want any) {
	t.Helper()
	if fmt.Sprintf("%+v", got) != fmt.Sprintf("%+v", want) {
		t.Errorf("%s: got %+v, want %+v", name, got, want)
	}
}

// summed puts the line of the sum behind lines.
func summed(lines string) string { return fmt.Sprintf("%ssum %d\n", lines, deposit.Sum(lines)) }

const lists = "list areas\ncode land -1\ncode north 0\ncode south 0\ncode a 1\ncode b 1\ncode c 2\nlist sexes\ncode any -1\ncode f 0\ncode m 0\nlist kinds\ncode k -1\ncode k1 0\ncode k2 0\ncode l2 2\ncode l1 1\n"
const columns = "id person\ncoded area 0\ncoded sex 1\nmeasure age 0 99 need 1 5 20\nmeasure income -500 5000 may 1 100\nmeasure weeks 0 60 need 1 4\ncoded kind 2\n"
const rows = "row 1 a f 34 1200 10 l2\nrow 3 b f 19 na 5 l2\nrow 2 a m 41 -50 22 l1\n"

func someRows() [][]int {
	all := example.Rows()
	return [][]int{all[0], all[2], all[1]}
}

// TestSum is about P3.1.
func TestSum(t *testing.T) {
	want(t, "nothing", deposit.Sum(""), 7)
	want(t, "one byte", deposit.Sum("a"), 7*33+97)
	want(t, "a byte above 127", deposit.Sum("\xff"), 7*33+255)
	want(t, "two bytes", deposit.Sum("ab"), (7*33+97)*33+98)
	want(t, "a rune is its bytes", deposit.Sum("é"), (7*33+0xc3)*33+0xa9)
	sum := 7
	long := strings.Repeat("sum of a longer text\n", 50)
	for _, b := range []byte(long) {
		sum = (sum*33 + int(b)) % 1000003
	}
	want(t, "a longer text", deposit.Sum(long), sum)
}

// TestPrint is about P3.1: the text, line by line.
func TestPrint(t *testing.T) {
	text, e := deposit.Print(example.Schema(), someRows())
	want(t, "error", e, api.OK)
	want(t, "file", text, summed(lists+columns+rows))
	text, e = deposit.Print(api.Schema{Columns: []api.Column{{Name: "p", Kind: api.ColumnId}}}, nil)
	want(t, "error", e, api.OK)
	want(t, "the chapter's example", text, summed("id p\n"))
}

// TestPrintErrors is about P3.1: the errors, of which the first one counts.
func TestPrintErrors(t *testing.T) {
	s := example.Schema()
	bad := example.Schema()
	bad.Columns[1].Name = "on"
	good := example.Rows()[0]
	ids := func(n, first int) [][]int {
		var l [][]int
		for i := range n {
			row := append([]int{first + i}, good[1:]...)
			l = append(l, row)
		}
		return l
	}
	for _, c := range []struct {
		name string
		s    api.Schema
		rows [][]int
		e    api.Errno
	}{
		{"a wrong schema before rows", bad, ids(201, 1), api.ErrName},
		{"all rows", s, ids(200, 1), api.OK},
		{"a row too many before that rows do not fit", s, ids(201, 0), api.ErrLimit},
		{"a row that does not fit", s, ids(1, 0), api.ErrRow},
		{"a wrong row behind one that is there twice", s, append(append(ids(1, 5), ids(1, 5)...), ids(1, 0)...), api.ErrRow},
		{"an id twice", s, append(ids(5, 1), ids(1, 3)...), api.ErrDuplicate},
		{"no rows", s, nil, api.OK},
	} {
		text, e := deposit.Print(c.s, c.rows)
		want(t, c.name, e, c.e)
		want(t, c.name+": a text", text != "", c.e == api.OK)
	}
}

// large makes a schema whose file with its rows is longer by so many bytes than that of large(0), but for the sum.
func large(more int) (api.Schema, [][]int) {
	s := api.Schema{Columns: []api.Column{{Name: "p", Kind: api.ColumnId}}}
	for i := range 5 {
		l := api.CodeList{Name: fmt.Sprintf("l%d", i)}
		for k := range api.MaxCodes {
			longer := min(more, api.MaxName-3)
			more -= longer
			l.Codes = append(l.Codes, api.Code{Name: fmt.Sprintf("c%02d", k) + strings.Repeat("x", longer)})
		}
		l.Codes[0].Parent = -1
		s.Lists = append(s.Lists, l)
	}
	row := []int{0}
	for i := range 7 {
		s.Columns = append(s.Columns, api.Column{Name: fmt.Sprintf("m%d", i), Kind: api.ColumnMeasure, Low: -999999, High: 999999, Widths: []int{1}})
		row = append(row, -999999)
	}
	var rows [][]int
	for i := range api.MaxRows {
		rows = append(rows, append([]int{100000 + i}, row[1:]...))
	}
	return s, rows
}

// TestLimit is about P3.1 and P3.2: a file of just api.MaxText bytes, and longer ones.
func TestLimit(t *testing.T) {
	small, e := deposit.Print(large(0))
	want(t, "a smaller file", e, api.OK)
	more := api.MaxText - len(small) - 6
	text, _ := deposit.Print(large(more))
	for len(text) != api.MaxText && more < api.MaxText-len(small)+6 {
		more++
		text, _ = deposit.Print(large(more))
	}
	want(t, "length", len(text), api.MaxText)
	_, _, line, e := deposit.Parse(text)
	want(t, "it can be read", fmt.Sprint(line, e), "0 0")
	_, e = deposit.Print(large(more + 8))
	want(t, "a longer file", e, api.ErrLimit)
	_, _, line, e = deposit.Parse(text + "x")
	want(t, "a byte more to read", fmt.Sprint(line, e), fmt.Sprint(0, api.ErrLimit))
}

// TestParse is about P3.2: what is read.
func TestParse(t *testing.T) {
	s, l, line, e := deposit.Parse(summed(lists + columns + rows))
	want(t, "error", fmt.Sprint(line, e), "0 0")
	want(t, "schema", s, example.Schema())
	want(t, "rows", l, someRows())
	s, l, line, e = deposit.Parse(summed("id p\n"))
	want(t, "error", fmt.Sprint(line, e), "0 0")
	want(t, "the chapter's example", fmt.Sprint(len(s.Lists), len(s.Columns), len(l)), "0 1 0")
}

// TestParseForm is about P3.2: lines that are none, or stand where they cannot.
func TestParseForm(t *testing.T) {
	for _, c := range []struct {
		lines string
		line  int
	}{
		{"\n", 1}, {"row\n\n", 2}, {" id p\n", 1}, {"id p \n", 1}, {"id  p\n", 1}, {"ID p\n", 1}, {"note x\n", 1}, {"id p\r\nx\n", 2},
		{"list\n", 1}, {"list a b\n", 1}, {"code r -1\n", 1}, {"list a\ncode r\n", 2}, {"list a\ncode r -1 0\n", 2}, {"list a\ncode r x\n", 2}, {"list a\ncode r -01\n", 2}, {"list a\ncode r -0\n", 2},
		{"list a\nid p\ncode r -1\n", 3}, {"id p\nlist a\n", 2}, {"id p\nrow 1\nlist a\n", 3}, {"id p\nrow 1\ncode r -1\n", 3}, {"list a\nid p\nrow 1\ncode r -1\n", 4},
		{"id\n", 1}, {"id p q\n", 1}, {"coded c\n", 1}, {"coded c x\n", 1}, {"coded c 0 0\n", 1}, {"coded\n", 1}, {"measure\n", 1},
		{"measure m 0 1 need\n", 1}, {"measure m 0 1 must 1\n", 1}, {"measure m x 1 need 1\n", 1}, {"measure m 0 x need 1\n", 1}, {"measure m 0 1 need 1 x\n", 1}, {"measure m 0 1 may 1 05\n", 1},
		{"measure m 0 1000000000000000 need 1\n", 1},
		{"id p\nrow\n", 2}, {"id p\nrow 1 2\n", 2}, {"id p\nrow x\n", 2}, {"id p\nrow na\n", 2}, {"id p\nrow 1\nid q\n", 3}, {"id p\nrow 1\ncoded c 0\n", 3}, {"id p\nrow 1\nmeasure m 0 1 need 1\n", 3},
		{"id p\nmeasure m 0 1 need 1\nrow 1 na\n", 3}, {"id p\nmeasure m 0 1 may 1\nrow 1 x\n", 3}, {"id p\nmeasure m 0 1 may 1\nrow 1 -1099511627776\n", 3}, {"id p\nmeasure m 0 1 need 1\nrow 1 -1099511627776\n", 3},
		{"list a\ncode r -1\nid p\ncoded c 0\nrow 1 0\n", 5}, {"list a\ncode r -1\nid p\ncoded c 0\nrow 1 na\n", 5}, {"list a\ncode r -1\nid p\ncoded c 1\nrow 1 r\n", 5}, {"list a\ncode r -1\nid p\ncoded c -1\nrow 1 r\n", 5},
		{"sum 1 2\n", 1}, {"sum x\n", 1}, {"sum\n", 1}, {"sum 07\n", 1},
	} {
		s, l, line, e := deposit.Parse(summed(c.lines))
		want(t, c.lines, fmt.Sprint(line, e), fmt.Sprint(c.line, api.ErrForm))
		want(t, c.lines+": results", fmt.Sprintf("%v %v", s, l), "{[] []} []")
	}
}

// TestParseEnd is about P3.2: the sum, and ends of files.
func TestParseEnd(t *testing.T) {
	right := summed("id p\nrow 7\n")
	for _, c := range []struct {
		text string
		line int
		e    api.Errno
	}{
		{right, 0, api.OK},
		{"", 1, api.ErrForm},
		{"id p\n", 2, api.ErrForm},
		{"id p\nrow 7\n", 3, api.ErrForm},
		{"id p\nrow 7", 2, api.ErrForm},
		{strings.TrimSuffix(right, "\n"), 3, api.ErrForm},
		{right + "x", 4, api.ErrForm},
		{right + "\n", 4, api.ErrForm},
		{right + right, 4, api.ErrForm},
		{"id p\nrow 7\nsum 5\n", 3, api.ErrSum},
		{"id p\nrow 7\nsum -5\nx", 3, api.ErrSum},
		{strings.Replace(right, "7", "8", 1), 3, api.ErrSum},
		{"sum 7\n", 0, api.ErrColumn},
		{"sum 8\n", 1, api.ErrSum},
		{"sum 7\nx", 2, api.ErrForm},
	} {
		_, _, line, e := deposit.Parse(c.text)
		want(t, fmt.Sprintf("%q", c.text), fmt.Sprint(line, e), fmt.Sprint(c.line, c.e))
	}
}

// TestParseRight is about P3.2: files of the right form, with the errors of Print.
func TestParseRight(t *testing.T) {
	list := "list a\ncode r -1\ncode s 0\n"
	for _, c := range []struct {
		lines string
		e     api.Errno
	}{
		{"list A\nid p\n", api.ErrName},
		{"list a\nid p\n", api.ErrList},
		{"list a\ncode r 0\nid p\n", api.ErrCode},
		{"list a\ncode r -1\nlist a\ncode r -1\nid p\n", api.ErrDuplicate},
		{"list a\ncode r -1\ncode r 0\nid p\n", api.ErrDuplicate},
		{"id \xff\n", api.ErrName},
		{"id row\n", api.OK},
		{"coded c 0\nid p\n", api.ErrColumn},
		{"id p\nid q\n", api.ErrKind},
		{"id p\nid q\nrow 1 2\n", api.ErrKind},
		{"id p\ncoded c 0\n", api.ErrList},
		{"id p\nmeasure m 5 1 need 1\n", api.ErrRange},
		{"id p\nmeasure m 0 1 need 2\n", api.ErrRange},
		{"id p\nmeasure m 0 1 need 1 2 4 8 16\n", api.ErrLimit},
		{"id p\nmeasure m 0 9 need 1\nrow 1 10\n", api.ErrRow},
		{"id p\nmeasure m 0 9 may 1\nrow 1 na\nrow 2 9\n", api.OK},
		{"id p\nrow 0\n", api.ErrRow},
		{"id p\nrow 5\nrow 5\n", api.ErrDuplicate},
		{list + "id p\ncoded c 0\nrow 1 s\n", api.OK},
		{list + "id p\ncoded c 0\nrow 1 r\n", api.ErrRow},
		{"list a\ncode r -1\ncode na 0\ncode 7 0\nid p\ncoded c 0\nrow 1 7\nrow 2 na\n", api.ErrName},
		{"id p\nrow 1\n" + strings.Repeat("row 1\n", 200), api.ErrLimit},
		{"row\n", api.ErrColumn},
	} {
		text := summed(c.lines)
		s, l, line, e := deposit.Parse(text)
		want(t, c.lines, fmt.Sprint(line, e), fmt.Sprint(0, c.e))
		if c.e == api.OK {
			again, _ := deposit.Print(s, l)
			want(t, "the file again", again, text)
		} else {
			want(t, c.lines+": results", fmt.Sprintf("%v %v", s, l), "{[] []} []")
		}
	}
}

// TestRoundTrip is about P3.2: Parse of what Print returns.
func TestRoundTrip(t *testing.T) {
	text, _ := deposit.Print(example.Schema(), example.Rows())
	s, l, line, e := deposit.Parse(text)
	want(t, "error", fmt.Sprint(line, e), "0 0")
	want(t, "schema", s, example.Schema())
	want(t, "rows", l, example.Rows())
	for i := range text {
		if _, _, _, e := deposit.Parse(text[:i] + text[i+1:]); e == api.OK {
			t.Errorf("without byte %d there is another file of the same", i)
		}
	}
}
