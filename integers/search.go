package integers

import (
	"slices"

	"dataenclave/api"
	"dataenclave/equations"
)

// system is equations that are small, with the rooms of the cells: 0 for those that are in no equation.
type system struct {
	cells int
	rooms []int
	all   []api.Equation
}

// open returns the system of equations, or their first error.
func open(cells int, l []api.Equation) (system, api.Errno) {
	if !equations.Valid(cells, l) {
		return system{}, api.ErrSpace
	}
	x := system{cells: cells, rooms: make([]int, cells), all: l}
	for _, q := range l {
		for _, cell := range q.Cells {
			if x.rooms[cell] == 0 || q.Value+1 < x.rooms[cell] {
				x.rooms[cell] = q.Value + 1
			}
		}
	}
	tables := 1
	for _, room := range x.rooms {
		tables *= max(room, 1)
		if tables > api.MaxSearch {
			return system{}, api.ErrLimit
		}
	}
	return x, api.OK
}

// enough is what a search is stopped with.
type enough struct{}

// search gives all solutions to a function, ascending, as long as it wants more of them. The table that it gets is used again.
func (x system) search(found func(table []int) bool) {
	reduced, e := equations.Reduce(x.cells, x.all)
	if e != api.OK {
		return
	}
	defer func() {
		if reason := recover(); reason != nil {
			if _, ok := reason.(enough); !ok {
				panic(reason)
			}
		}
	}()
	p := x.plan(reduced)
	if slices.Contains(p.last, none) { // an equation of cells that must all be 0
		return
	}
	table := make([]int, x.cells)
	var try func(at int)
	try = func(at int) {
		if at == len(p.free) {
			if !found(table) {
				panic(enough{})
			}
			return
		}
		low, high := p.span(at)
		for n := low; n <= high; n++ {
			table[p.free[at]] = n
			p.take(at, n)
			try(at + 1)
			p.take(at, -n)
		}
		table[p.free[at]] = 0
	}
	try(0)
}

// none stands for the last free cell of an equation that has none, and cannot hold.
const none = -1

// plan is in which order a search goes on, and what is left of the values of the equations.
type plan struct {
	free []int   // cells that need not be 0
	in   [][]int // the equations in which each of them is
	last []int   // the last one of them in each equation
	left []int
}

func (x system) plan(l []api.Equation) plan {
	var p plan
	for cell, room := range x.rooms {
		if room > 1 {
			p.free = append(p.free, cell)
			p.in = append(p.in, nil)
		}
	}
	for _, q := range l {
		last := none
		for _, cell := range q.Cells {
			if at, is := slices.BinarySearch(p.free, cell); is {
				p.in[at] = append(p.in[at], len(p.left))
				last = at
			}
		}
		if last == none && q.Value == 0 {
			continue
		}
		p.last, p.left = append(p.last, last), append(p.left, q.Value)
	}
	return p
}

// span returns the numbers from which to which a free cell can go.
func (p plan) span(at int) (int, int) {
	low, high := 0, api.MaxValue
	for _, q := range p.in[at] {
		high = min(high, p.left[q])
		if p.last[q] == at {
			low = max(low, p.left[q])
		}
	}
	return low, high
}

// take takes a number from what is left of the equations of a free cell.
func (p plan) take(at, n int) {
	for _, q := range p.in[at] {
		p.left[q] -= n
	}
}
