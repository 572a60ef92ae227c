package session

import (
	"maps"
	"slices"
)

// table is what there is of one kind, by ids.
type table[T any] struct {
	of    map[int]*T
	given int // the last id that was
}

// next is the id of the one that is added next.
func (t *table[T]) next() int { return t.given + 1 }

func (t *table[T]) add(one *T) {
	if t.of == nil {
		t.of = map[int]*T{}
	}
	t.given++
	t.of[t.given] = one
}

func (t *table[T]) drop(id int) { delete(t.of, id) }

// get is the one of an id; nil: there is none.
func (t *table[T]) get(id int) *T { return t.of[id] }

func (t *table[T]) count() int { return len(t.of) }

// all is all of them, by rising ids.
func (t *table[T]) all() []*T {
	var out []*T
	for _, id := range slices.Sorted(maps.Keys(t.of)) {
		out = append(out, t.of[id])
	}
	return out
}

// toldAll is what is told of all, toldOne what is told of one, if there is one.
func toldAll[T, U any](all []*T, tell func(*T) U) []U {
	var out []U
	for _, one := range all {
		out = append(out, tell(one))
	}
	return out
}

func toldOne[T, U any](one *T, tell func(*T) U) (U, bool) {
	if one == nil {
		var none U
		return none, false
	}
	return tell(one), true
}
