package text_test

import (
	"fmt"
	"testing"

	"dataenclave/text"
)

func want(t *testing.T, name string, got, want any) {
	t.Helper()
	if fmt.Sprintf("%+v", got) != fmt.Sprintf("%+v", want) {
		t.Errorf("%s: got %+v, want %+v", name, got, want)
	}
}

func TestNumbers(t *testing.T) {
	for _, c := range []struct {
		word                     string
		n                        int
		decimal, number, natural bool
	}{
		{"0", 0, true, true, true},
		{"7", 7, true, true, true},
		{"-7", -7, true, true, false},
		{"120", 120, true, true, true},
		{"999999999999999", 999999999999999, true, true, true},
		{"-999999999999999", -999999999999999, true, true, false},
		{"1000000000000000", 1000000000000000, true, false, false},
		{"-1000000000000000", -1000000000000000, true, false, false},
		{"9223372036854775807", 9223372036854775807, true, false, false},
		{"-9223372036854775808", -9223372036854775808, true, false, false},
		{"9223372036854775808", 0, false, false, false},
		{"", 0, false, false, false}, {"-", 0, false, false, false}, {"-0", 0, false, false, false}, {"00", 0, false, false, false},
		{"07", 0, false, false, false}, {"+7", 0, false, false, false}, {"--7", 0, false, false, false}, {" 7", 0, false, false, false},
		{"7 ", 0, false, false, false}, {"1_0", 0, false, false, false}, {"0x1", 0, false, false, false}, {"٣", 0, false, false, false},
	} {
		for _, f := range []struct {
			name string
			read func(string) (int, bool)
			ok   bool
		}{{"decimal", text.Decimal, c.decimal}, {"number", text.Number, c.number}, {"natural", text.Natural, c.natural}} {
			n, ok := f.read(c.word)
			value := c.n
			if !f.ok {
				value = 0
			}
			want(t, f.name+" "+c.word, fmt.Sprint(n, ok), fmt.Sprint(value, f.ok))
		}
	}
}

func TestWords(t *testing.T) {
	for line, n := range map[string]int{"a": 1, "a b": 2, "a\tb": 1, "": 0, " ": 0, " a": 0, "a ": 0, "a  b": 0, "a b c": 3} {
		want(t, "words of "+line, len(text.Words(line)), n)
	}
	want(t, "line", text.Line([]string{"a", "b"}), "a b\n")
	want(t, "line", text.Line(text.Words("x y z")), "x y z\n")
}
