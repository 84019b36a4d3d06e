package linear

import (
	"dataenclave/api"
	"dataenclave/fraction"
)

// Kernel returns the list that shows that the columns of a matrix depend on each other.
func Kernel(a [][]int) []api.Frac {
	if !Zero(a) {
		return nil
	}
	rows := independent(a)
	k := len(rows)
	list := make([]api.Frac, len(a))
	for i := range list {
		list[i] = api.Frac{Den: 1}
	}
	list[k].Num = 1
	square, right := part(a, rows, k), []int{}
	for _, row := range rows {
		right = append(right, -a[row][k])
	}
	for column := range rows {
		x, e := fraction.Ratio(determinant(replaced(square, column, right)), determinant(square))
		if e != api.OK {
			return nil
		}
		list[column] = x
	}
	return list
}

// independent returns rows in which the first columns do not depend on each other, as many columns as there are rows, such that with one column more they do.
func independent(a [][]int) []int {
	var found []int
search:
	for k := 1; k < len(a); k++ {
		for set := range 1 << len(a) {
			rows := members(set)
			if len(rows) == k && determinant(part(a, rows, k)).Sign() != 0 {
				found = rows
				continue search
			}
		}
		break
	}
	return found
}

// members returns the numbers of the bits that are set.
func members(set int) []int {
	var l []int
	for i := 0; set>>i > 0; i++ {
		if set>>i&1 == 1 {
			l = append(l, i)
		}
	}
	return l
}

// part returns the first columns of some rows.
func part(a [][]int, rows []int, columns int) [][]int {
	var l [][]int
	for _, row := range rows {
		l = append(l, a[row][:columns])
	}
	return l
}
