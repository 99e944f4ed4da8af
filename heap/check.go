package heap

import (
	"slices"

	"palisade/api"
	"palisade/cells"
	"palisade/term"
)

// cell: the error of one, wherever it leads to from there.
func cell(h []api.Cell, at int) api.Errno {
	switch c := h[at]; c.Kind {
	case api.CellRef:
		return ref(h, c)
	case api.CellFn:
		return fn(c, h[at+1:])
	}
	return api.ErrForm
}

// ref: the error of a CellRef.
func ref(h []api.Cell, c api.Cell) api.Errno {
	if none(h, c.N) {
		return api.ErrNone
	}
	if c.Name != "" {
		return api.ErrForm
	}
	return api.OK
}

// fn: the error of a CellFn, with all cells behind it.
func fn(c api.Cell, behind []api.Cell) api.Errno {
	if !named(c) {
		return api.ErrForm
	}
	if c.N > len(behind) {
		return api.ErrNone
	}
	if slices.ContainsFunc(behind[:c.N], func(b api.Cell) bool { return b.Kind != api.CellRef }) {
		return api.ErrForm
	}
	return api.OK
}

// named: has a CellFn a name, and as many arguments as it may have?
func named(c api.Cell) bool {
	most := api.MaxArgs
	if c.Name == api.NameCut {
		most = 0
	}
	return c.N >= 0 && c.N <= most && term.Check(api.Term{Name: c.Name}) == api.OK
}

// circle: do cells lead in one? A cell to which none leads (any more) is taken away, as long as there is one: if some stay, they lead in a circle.
// Cells are not gone through one within the other, because a heap can lead as deep as it is long.
func circle(h []api.Cell) bool {
	into := make([]int, len(h))
	for at := range h {
		for to := range cells.Leads(h, at) {
			into[to]++
		}
	}
	free := make([]int, 0, len(h))
	for at, n := range into {
		if n == 0 {
			free = append(free, at)
		}
	}
	for i := 0; i < len(free); i++ {
		for to := range cells.Leads(h, free[i]) {
			into[to]--
			if into[to] == 0 {
				free = append(free, to)
			}
		}
	}
	return len(free) < len(h)
}
