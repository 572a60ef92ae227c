package format

import "mullion/api"

// scopes lie within one another; the innermost one is ahead.
type scopes struct {
	api.Scope
	around *scopes
}

// find is the value of a name, if there is one.
func (s *scopes) find(name string) (string, bool) {
	for ; s != nil; s = s.around {
		for _, p := range s.Vars {
			if p.Name == name {
				return short(p.Value), true
			}
		}
	}
	return "", false
}

// value is the value of a name, or nothing.
func (s *scopes) value(name string) string {
	value, _ := s.find(name)
	return value
}

// loop is what there is of a kind to go over.
func (s *scopes) loop(kind byte) []api.Scope {
	for ; s != nil; s = s.around {
		for _, l := range s.Loops {
			if l.Kind == kind {
				return l.Scopes
			}
		}
	}
	return nil
}
