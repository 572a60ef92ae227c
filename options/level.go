package options

// level is values by their names, and what they stand over.
type level[V any] struct {
	own    map[string]V
	parent *level[V]
}

// lookUp is what the nearest level that has the name says of it.
func lookUp[V any](from *level[V], name string) (V, bool) {
	for l := from; l != nil; l = l.parent {
		if v, has := l.own[name]; has {
			return v, true
		}
	}
	var none V
	return none, false
}

func (l *level[V]) put(name string, v V) {
	if l.own == nil {
		l.own = map[string]V{}
	}
	l.own[name] = v
}
