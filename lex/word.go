package lex

import "mullion/api"

// word is the text of the word that begins here: its labels are where a word's bytes come to.
func (r *reader) word() string {
	r.made = nil
	if r.isHome() {
		r.take()
		r.add(r.value("HOME"))
	}
plain:
	if isBehindWord(r.next()) {
		return string(r.made)
	}
	switch b := r.take(); b {
	case "'":
		goto single
	case `"`:
		goto double
	case `\`:
		r.add(r.escaped())
	case "$":
		r.add(r.named())
	default:
		r.add(b)
	}
	goto plain
single:
	switch b := r.take(); b {
	case end:
		r.refuse(api.ErrForm)
	case "'":
		goto plain
	default:
		r.add(b)
	}
	goto single
double:
	switch b := r.take(); b {
	case end:
		r.refuse(api.ErrForm)
	case `"`:
		goto plain
	case `\`:
		r.add(lettered(r.escaped()))
	case "$":
		r.add(r.named())
	default:
		r.add(b)
	}
	goto double
}

// isBehindWord tells what may stand right behind a word: blanks, what ends a command, and the end.
func isBehindWord(b string) bool {
	switch b {
	case end, " ", "\t", "\n", ";":
		return true
	}
	return false
}

// isHome tells if a `~` comes next that stands for HOME.
func (r *reader) isHome() bool {
	return r.next() == "~" && (r.after() == "/" || isBehindWord(r.after()))
}

func (r *reader) add(s string) {
	if len(r.made)+len(s) > api.MaxFormat {
		r.refuse(api.ErrLong)
	}
	r.made = append(r.made, s...)
}

// escaped is the byte behind a `\`, or nothing, if that is a line feed.
func (r *reader) escaped() string {
	b := r.take()
	switch b {
	case end:
		r.refuse(api.ErrForm)
	case "\n":
		return ""
	}
	return b
}

// lettered is what a byte behind a `\` means in quotes.
func lettered(b string) string {
	switch b {
	case "n":
		return "\n"
	case "t":
		return "\t"
	case "e":
		return "\x1b"
	}
	return b
}

// named is what a `$` and the name behind it mean.
func (r *reader) named() string {
	if r.next() == "{" {
		r.take()
		name := r.name()
		if name == "" || r.take() != "}" {
			r.refuse(api.ErrForm)
		}
		return r.value(name)
	}
	if name := r.name(); name != "" {
		return r.value(name)
	}
	return "$"
}
