package lex

import "mullion/api"

// block is the text of the block that begins here: its labels are where a block's bytes come to.
func (r *reader) block() string {
	deep := 0
	from := r.at + len("{")
inside:
	switch r.take() {
	case end:
		r.refuse(api.ErrForm)
	case "{":
		deep++
	case "}":
		deep--
	case `\`:
		r.take()
	case "'":
		goto single
	case `"`:
		goto double
	}
	if deep > 0 {
		goto inside
	}
	if !isBehindWord(r.next()) {
		r.refuse(api.ErrForm)
	}
	return r.text[from : r.at-len("}")]
single:
	switch r.take() {
	case end:
		r.refuse(api.ErrForm)
	case "'":
		goto inside
	}
	goto single
double:
	switch r.take() {
	case end:
		r.refuse(api.ErrForm)
	case `\`:
		r.take()
	case `"`:
		goto inside
	}
	goto double
}
