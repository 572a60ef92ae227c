package session

import (
	"slices"
	"strconv"

	"mullion/api"
)

// buffers is those that are kept, from the front on.
type buffers struct {
	kept   []buffer
	number int // the one behind the last that was given
}

type buffer struct {
	name, data string
	numbered   bool // its name was given, and nobody has stored it by that since
}

// Store keeps a buffer (an empty name: a new one), Fetch gives one (an empty name: the latest), Drop forgets one, Buffers is their names, the latest first.
func (t *buffers) Store(name, data string) (string, api.Errno) {
	switch {
	case len(data) > api.MaxBuffer:
		return "", api.ErrLong
	case name != "" && !isName(name):
		return "", api.ErrName
	}
	number := t.number
	fresh := buffer{name, data, name == ""}
	if fresh.numbered {
		fresh.name, number = t.nextName()
	}
	old := t.at(fresh.name)
	if old < 0 && len(t.kept) >= api.MaxBuffers {
		old = t.farthest()
		if old < 0 {
			return "", api.ErrMany
		}
	}
	if old >= 0 {
		t.kept = slices.Delete(t.kept, old, old+1)
	}
	t.kept = slices.Insert(t.kept, 0, fresh)
	t.number = number
	return fresh.name, api.OK
}

// nextName is the name that a numbered one is given next, and the number behind its own.
func (t *buffers) nextName() (string, int) {
	for number := t.number; ; number++ {
		if name := "buffer" + strconv.Itoa(number); t.at(name) < 0 {
			return name, number + 1
		}
	}
}

// at is where the one of that name is; below 0: nowhere.
func (t *buffers) at(name string) int {
	return slices.IndexFunc(t.kept, func(b buffer) bool { return b.name == name })
}

// farthest is where the numbered one is that is farthest back; below 0: there is none.
func (t *buffers) farthest() int {
	for at, b := range slices.Backward(t.kept) {
		if b.numbered {
			return at
		}
	}
	return -1
}

// find is where the one is that a name means; below 0: there is none.
func (t *buffers) find(name string) int {
	if name == "" && len(t.kept) > 0 {
		return 0
	}
	return t.at(name)
}

func (t *buffers) Fetch(name string) (string, string, api.Errno) {
	at := t.find(name)
	if at < 0 {
		return "", "", api.ErrNone
	}
	return t.kept[at].name, t.kept[at].data, api.OK
}

func (t *buffers) Drop(name string) api.Errno {
	at := t.find(name)
	if at < 0 {
		return api.ErrNone
	}
	t.kept = slices.Delete(t.kept, at, at+1)
	return api.OK
}

func (t *buffers) Buffers() []string {
	var names []string
	for _, b := range t.kept {
		names = append(names, b.name)
	}
	return names
}
