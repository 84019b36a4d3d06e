package script

import (
	"slices"

	"dataenclave/api"
)

// Same reports whether all fields of two events are equal.
func Same(a, b api.Event) bool {
	return a.Kind == b.Kind && a.Number == b.Number && a.Of == b.Of &&
		a.Project == b.Project && a.Name == b.Name && a.Person == b.Person && a.Text == b.Text &&
		a.Approval == b.Approval && a.Shift == b.Shift &&
		sameEdit(a.Edit, b.Edit) && sameDeclaration(a.Declaration, b.Declaration) && sameCommand(a.Command, b.Command)
}

func sameEdit(a, b api.Edit) bool {
	return a.Kind == b.Kind && a.Id == b.Id && slices.Equal(a.Row, b.Row)
}

func sameDeclaration(a, b api.Declaration) bool {
	return a.Project == b.Project && a.Source == b.Source && a.Sample == b.Sample &&
		sameCond(a.Cohort, b.Cohort) && slices.EqualFunc(a.Questions, b.Questions, sameQuestion)
}

func sameQuestion(a, b api.Question) bool {
	return a.Name == b.Name && a.Kind == b.Kind && a.Measure == b.Measure &&
		slices.Equal(a.Dims, b.Dims) && slices.Equal(a.Terms, b.Terms) &&
		sameCond(a.Filter, b.Filter) && sameCond(a.Event, b.Event)
}

func sameCond(a, b api.Cond) bool {
	return a.Op == b.Op && a.Column == b.Column && a.Code == b.Code && a.Low == b.Low && a.High == b.High &&
		slices.EqualFunc(a.Kids, b.Kids, sameCond)
}

func sameCommand(a, b api.Command) bool {
	return a.Kind == b.Kind && a.Name == b.Name && sameStatement(a.Statement, b.Statement) && sameChange(a.Change, b.Change)
}

func sameChange(a, b api.Change) bool {
	return a.Version == b.Version && slices.Equal(a.Gone, b.Gone) && slices.EqualFunc(a.Rows, b.Rows, slices.Equal[[]int])
}

func sameStatement(a, b api.Statement) bool {
	return a.Name == b.Name && a.Out == b.Out && sameExpr(a.Expr, b.Expr)
}

func sameExpr(a, b api.Expr) bool {
	return a.Op == b.Op && a.Num == b.Num && a.Name == b.Name && a.Column == b.Column &&
		slices.Equal(a.Columns, b.Columns) && slices.Equal(a.Dims, b.Dims) &&
		sameCond(a.Cond, b.Cond) && sameCond(a.Event, b.Event) && slices.EqualFunc(a.Kids, b.Kids, sameExpr)
}
