package parse

import (
	"strings"

	"mullion/api"
	"mullion/lex"
)

// isRight tells if a command of the row's name has what the row says, and nothing else.
func (r row) isRight(c api.Command) bool {
	for i, f := range c.Flags {
		has, valued := r.flag(f.Letter)
		rises := i == 0 || c.Flags[i-1].Letter < f.Letter
		if !has || !rises || !valued && f.Value != "" {
			return false
		}
	}
	return r.takes(len(c.Args))
}

// printed is a right command of the row as a text.
func (r row) printed(c api.Command) string {
	var out strings.Builder
	out.WriteString(r.name)
	add := func(word string) { out.WriteString(" " + word) }
	for _, f := range c.Flags {
		add("-" + string(rune(f.Letter)))
		if _, valued := r.flag(f.Letter); valued {
			add(lex.Quote(f.Value))
		}
	}
	if len(c.Args) > 0 && isDashed(c.Args[0]) {
		add(noMoreFlags)
	}
	for _, a := range c.Args {
		add(lex.Quote(a))
	}
	return out.String()
}
