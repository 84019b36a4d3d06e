// Package text contains what the texts of several layers have in common: names, whole numbers in decimal, and words between single spaces.
package text

import (
	"slices"
	"strconv"
	"strings"
)

// maxDigits is how many digits a number of a text has at most.
const maxDigits = 15

// Decimal returns the whole number that a word stands for, written without superfluous zeros, and whether there is one.
func Decimal(word string) (int, bool) {
	n, err := strconv.Atoi(word)
	if err != nil || strconv.Itoa(n) != word {
		return 0, false
	}
	return n, true
}

// Number is Decimal for numbers of at most 15 digits.
func Number(word string) (int, bool) {
	if len(strings.TrimPrefix(word, "-")) > maxDigits {
		return 0, false
	}
	return Decimal(word)
}

// Natural is Number for numbers without a sign.
func Natural(word string) (int, bool) {
	n, ok := Number(word)
	if n < 0 {
		return 0, false
	}
	return n, ok
}

// Words returns the words of a line, nothing if one of them is empty.
func Words(line string) []string {
	words := strings.Split(line, " ")
	if slices.Contains(words, "") {
		return nil
	}
	return words
}

// Line returns the line of some words.
func Line(words []string) string { return strings.Join(words, " ") + "\n" }
