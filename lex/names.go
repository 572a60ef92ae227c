package lex

import (
	"strings"

	"mullion/api"
)

const (
	letters = "abcdefghijklmnopqrstuvwxyzABCDEFGHIJKLMNOPQRSTUVWXYZ_"
	digits  = "0123456789"
)

// name is the name that comes next, or nothing.
func (r *reader) name() string {
	from := r.at
	for isOne(r.next(), letters) || r.at > from && isOne(r.next(), digits) {
		r.take()
	}
	return r.text[from:r.at]
}

func isOne(b, of string) bool { return b != end && strings.Contains(of, b) }

// values are those of names. There may be many pairs, and a text may ask often, so all are gone over only once.
type values struct {
	pairs  []api.Pair
	places map[string]int // of the last pair of each name, once one is asked for
}

// value is the value of a name, or nothing.
func (v *values) value(name string) string {
	if v.places == nil {
		v.places = map[string]int{}
		for i, p := range v.pairs {
			v.places[p.Name] = i
		}
	}
	if i, has := v.places[name]; has {
		return v.pairs[i].Value
	}
	return ""
}
