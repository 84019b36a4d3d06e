package audit

import (
	"slices"

	"dataenclave/api"
	"dataenclave/environment"
)

// Follows reports whether an environment can come after another one, as far as this shows.
func Follows(a, b api.Enclave) bool {
	return environment.Check(a) == api.OK && environment.Check(b) == api.OK &&
		sameSource(a.First, b.First) && a.Rules == b.Rules && a.Margin == b.Margin && a.Deadline == b.Deadline &&
		a.Time <= b.Time &&
		begins(a.Edits, b.Edits, sameEdit) && begins(a.Register, b.Register, sameEntry) && begins(a.Wholes, b.Wholes, sameWhole) &&
		begins(a.Outputs, b.Outputs, follows)
}

// begins reports whether a list is a beginning of another one, as far as its elements are alike.
func begins[T any](a, b []T, alike func(x, y T) bool) bool {
	return len(a) <= len(b) && slices.EqualFunc(a, b[:len(a)], alike)
}

func sameEntry(a, b api.Entry) bool { return a == b }

func sameEdit(a, b api.Edit) bool {
	return a.Kind == b.Kind && a.Id == b.Id && slices.Equal(a.Row, b.Row)
}

func sameWhole(a, b api.Whole) bool {
	return a.Version == b.Version && a.Release.Number == b.Release.Number && slices.Equal(a.Release.Values, b.Release.Values) &&
		slices.EqualFunc(a.Release.View.Groups, b.Release.View.Groups, slices.Equal[[]int])
}

// follows reports whether an output can have become another one.
func follows(a, b api.Output) bool {
	if a.Number != b.Number || a.Project != b.Project || a.Researcher != b.Researcher || a.Time != b.Time || a.Text != b.Text {
		return false
	}
	ended := a.State == api.OutputReleased || a.State == api.OutputRefused || a.State == api.OutputExpired
	return !ended || a.State == b.State && slices.Equal(a.Signatures, b.Signatures)
}

func sameSource(a, b api.Source) bool {
	return a.Version == b.Version && slices.Equal(a.Gone, b.Gone) && slices.EqualFunc(a.Rows, b.Rows, slices.Equal[[]int]) &&
		slices.EqualFunc(a.Schema.Lists, b.Schema.Lists, sameList) && slices.EqualFunc(a.Schema.Columns, b.Schema.Columns, sameColumn)
}

func sameList(a, b api.CodeList) bool { return a.Name == b.Name && slices.Equal(a.Codes, b.Codes) }

func sameColumn(a, b api.Column) bool {
	return a.Name == b.Name && a.Kind == b.Kind && a.List == b.List && a.Low == b.Low && a.High == b.High && a.Optional == b.Optional &&
		slices.Equal(a.Widths, b.Widths)
}
