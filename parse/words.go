package parse

import (
	"cmp"
	"slices"
	"strings"

	"mullion/api"
)

// caught does what panics with a number where something is wrong, and is the one place where that is caught; what is no number of ours is a fault of the program, and goes on.
func caught(do func()) (errno api.Errno) {
	defer func() {
		switch wrong := recover().(type) {
		case nil:
		case api.Errno:
			errno = wrong
		default:
			panic(wrong)
		}
	}()
	do()
	return api.OK
}

// command is a line that is no directive: its words.
type command []api.Word

// noMoreFlags is the word that ends flags, and is none.
const noMoreFlags = "--"

// isDashed tells if a text looks like flags.
func isDashed(s string) bool { return len(s) > 1 && s[0] == '-' }

// made is the command that the words make.
func (words command) made() api.Command {
	if len(words) == 0 || words[0].Block {
		panic(api.ErrCommand)
	}
	r, is := find(words[0].Text)
	if !is {
		panic(api.ErrCommand)
	}
	m := &maker{row: r, rest: words[1:]}
	m.takeFlags()
	if !r.takes(len(m.rest)) {
		panic(api.ErrFlag)
	}
	c := api.Command{Name: r.name, Flags: m.kept, Line: words[0].Line}
	for _, w := range m.rest {
		c.Args = append(c.Args, w.Text)
	}
	return c
}

// maker makes a row's command of words.
type maker struct {
	row
	rest []api.Word // what is not taken yet
	kept []api.Flag // rising by their letters
}

// take takes the next word, whatever it is.
func (m *maker) take() string {
	if len(m.rest) == 0 {
		panic(api.ErrFlag)
	}
	s := m.rest[0].Text
	m.rest = m.rest[1:]
	return s
}

func (m *maker) takeFlags() {
	for len(m.rest) > 0 && !m.rest[0].Block && isDashed(m.rest[0].Text) {
		word := m.take()
		if word == noMoreFlags {
			return
		}
		m.takeLetters(strings.TrimPrefix(word, "-"))
	}
}

// takeLetters takes a word's letters, up to one that a value goes with: the value is what is left of the word, or the next one.
func (m *maker) takeLetters(letters string) {
	for i := range len(letters) {
		has, valued := m.flag(letters[i])
		if !has {
			panic(api.ErrFlag)
		}
		if !valued {
			m.keep(letters[i], "")
			continue
		}
		value := letters[i+1:]
		if value == "" {
			value = m.take()
		}
		m.keep(letters[i], value)
		return
	}
}

// keep keeps a flag; of one letter the last value counts.
func (m *maker) keep(letter byte, value string) {
	at, has := slices.BinarySearchFunc(m.kept, letter, func(f api.Flag, letter byte) int { return cmp.Compare(f.Letter, letter) })
	if has {
		m.kept[at].Value = value
		return
	}
	m.kept = slices.Insert(m.kept, at, api.Flag{Letter: letter, Value: value})
}
