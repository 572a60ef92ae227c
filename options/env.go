package options

import (
	"slices"
	"strings"

	"mullion/api"
)

// Env is an environment: names and values.
type Env struct {
	level[variable]
}

type variable struct {
	value  string
	hidden bool
}

func NewEnv(parent *Env) *Env {
	e := &Env{}
	if parent != nil {
		e.parent = &parent.level
	}
	return e
}

func (e *Env) Set(name, value string) api.Errno {
	switch {
	case !isVariable(name):
		return api.ErrName
	case len(value) > api.MaxString:
		return api.ErrLong
	case !e.mayHave(name):
		return api.ErrMany
	}
	e.put(name, variable{value: value})
	return api.OK
}

func (e *Env) Unset(name string) {
	if isVariable(name) && e.mayHave(name) {
		e.put(name, variable{hidden: true})
	}
}

func isVariable(name string) bool {
	return name != "" && len(name) <= api.MaxName && strings.Trim(name, letters+digits+"_") == "" && !strings.Contains(digits, name[:1])
}

// mayHave tells whether the name is there, or has room.
func (e *Env) mayHave(name string) bool {
	_, has := e.own[name]
	return has || len(e.own) < api.MaxOptions
}

func (e *Env) Get(name string) (string, bool) {
	v, has := lookUp(&e.level, name)
	return v.value, has && !v.hidden
}

func (e *Env) Names() []string {
	said := map[string]variable{}
	for l := &e.level; l != nil; l = l.parent {
		for name, v := range l.own {
			if _, has := said[name]; !has {
				said[name] = v
			}
		}
	}
	var names []string
	for name, v := range said {
		if !v.hidden {
			names = append(names, name)
		}
	}
	slices.Sort(names)
	return names
}
