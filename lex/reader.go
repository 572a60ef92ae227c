package lex

import "mullion/api"

// reader reads a text, byte by byte. What is wrong deep within is a panic of a fault.
type reader struct {
	text string
	at   int // which byte comes next
	line int // in which line it stands
	values
	lines []Line     // the commands that have ended
	words []api.Word // those of the one that has not
	group int
	began int    // the line of the word at hand
	made  []byte // its text, as far as it has come
}

type fault struct {
	errno api.Errno
	line  int
}

// run is the one place where what is wrong is caught; what is no fault of the text is one of the program, and goes on.
func (r *reader) run() (lines []Line, errno api.Errno, line int) {
	defer func() {
		switch wrong := recover().(type) {
		case nil:
		case fault:
			errno, line = wrong.errno, wrong.line
		default:
			panic(wrong)
		}
	}()
	r.read()
	return r.lines, api.OK, 0
}

// refuse refuses the text for the word at hand.
func (r *reader) refuse(errno api.Errno) { panic(fault{errno, r.began}) }

// end is what stands behind a text's last byte.
const end = ""

// next is the byte that comes next, or the end; after is what stands right behind such a byte.
func (r *reader) next() string { return front(r.text[r.at:]) }

func (r *reader) after() string { return front(r.text[r.at+1:]) }

func front(s string) string { return s[:min(1, len(s))] }

// take is next, too, and goes on behind it.
func (r *reader) take() string {
	b := r.next()
	r.at += len(b)
	if b == "\n" {
		r.line++
	}
	return b
}

// read reads the whole text: its labels are where bytes between words come to.
func (r *reader) read() {
between:
	r.began = r.line
	switch r.next() {
	case end:
		r.endCommand()
		return
	case "\n":
		r.endGroup()
	case ";":
		r.endCommand()
	case " ", "\t":
	case "#":
		goto remark
	case "{":
		goto block
	case "}":
		r.refuse(api.ErrForm)
	case `\`:
		if r.after() != "\n" {
			goto word
		}
		r.take()
	default:
		goto word
	}
	r.take()
	goto between
remark:
	switch r.next() {
	case end, "\n":
		goto between
	}
	r.take()
	goto remark
block:
	r.begin()
	r.keep(r.block(), true)
	goto between
word:
	r.begin()
	r.keep(r.word(), false)
	goto between
}

// begin begins a word, if there may be one more.
func (r *reader) begin() {
	first := len(r.words) == 0
	if len(r.words) == api.MaxWords || first && len(r.lines) == api.MaxCmds {
		r.refuse(api.ErrMany)
	}
}

func (r *reader) keep(text string, block bool) {
	r.words = append(r.words, api.Word{Text: text, Line: r.began, Block: block})
}

func (r *reader) endCommand() {
	if len(r.words) > 0 {
		r.lines = append(r.lines, Line{Words: r.words, Group: r.group})
		r.words = nil
	}
}

// endGroup ends the command, too. The group's number is taken only if it has one.
func (r *reader) endGroup() {
	r.endCommand()
	if n := len(r.lines); n > 0 && r.lines[n-1].Group == r.group {
		r.group++
	}
}
