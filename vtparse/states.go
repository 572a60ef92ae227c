package vtparse

import (
	"slices"

	"mullion/api"
)

// feeding is one Feed: its bytes, and whom to tell what they say.
type feeding struct {
	*Parser
	bytes []byte
	next  int  // which of the bytes is to be taken
	b     byte // the one that is at hand
	tell  func(api.Action)
}

// readText reads runes and strings' texts: each label is the state of that name (unheard: string). It ends with the bytes, or when one leads to a state that has no label here.
func (f *feeding) readText() {
	switch f.state {
	case inOsc:
		goto osc
	case inData:
		goto data
	case inString:
		goto unheard
	}
ground:
	for f.take(inGround) {
		f.print(f.decoder.Feed(f.b))
	}
	return
osc:
	for f.take(inOsc) {
		if f.b == bell {
			f.tellBegun()
			goto ground
		}
		f.put()
	}
	return
data:
	for f.take(inData) {
		f.put()
	}
	return
unheard:
	for f.take(inString) {
	}
}

// readHead reads what is ahead of a sequence's final byte, and that byte, likewise.
func (f *feeding) readHead() {
	switch f.state {
	case inEscape:
		goto escape
	case inCsi:
		goto csi
	case inDcs:
		goto dcs
	case inIgnore:
		goto ignore
	}
escape:
	switch f.collect(inEscape) {
	case left:
		return
	case unfit:
		goto ignore
	}
	switch f.opened() {
	case inCsi:
		f.begin(api.ActCsi)
		goto csi
	case inDcs:
		f.begin(api.ActDcs)
		goto dcs
	case inOsc:
		f.begin(api.ActOsc)
		f.state = inOsc
	case inString:
		f.state = inString
	case inGround:
		f.tellEscape()
	}
	return
csi:
	switch f.collect(inCsi) {
	case unfit:
		goto ignore
	case whole:
		f.tellBegun()
	}
	return
dcs:
	switch f.collect(inDcs) {
	case unfit:
		goto ignore
	case whole:
		f.state = inData
	}
	return
ignore:
	for f.take(inIgnore) {
		if f.isFinal() {
			f.endIgnored()
			return
		}
	}
}

// take comes to the next byte that the state itself has to do with. Without one, the bytes are at their end, or the last one, which is done with, led to another state.
func (f *feeding) take(state string) bool {
	f.state = state
	for f.next < len(f.bytes) {
		f.b = f.bytes[f.next]
		f.next++
		switch {
		case f.b == cancel || f.b == substitute:
			f.drop()
			return false
		case f.b == esc:
			f.escape()
			return false
		case isText(state):
			if !isControl(f.b) || state == inOsc && f.b == bell {
				return true
			}
		case isControl(f.b):
			f.control()
		case f.b > del && isHead(state):
			f.next--
			f.drop()
			return false
		case f.b != del:
			return true
		}
	}
	return false
}

// What becomes of a head.
const (
	left  = iota // it was left ahead of its final byte
	unfit        // the byte at hand may not stand where it stands
	whole        // the byte at hand is its final one
)

// collect takes the bytes of a head.
func (f *feeding) collect(state string) int {
	for f.take(state) {
		switch {
		case f.isFinal():
			f.begun.action.Byte = f.b
			return whole
		case !f.fits():
			return unfit
		}
		f.add()
	}
	return left
}

func (f *feeding) isFinal() bool { return isFinal(f.begun.action.Kind, f.b) }

// fits tells if the byte at hand, which is no final one, may stand behind what was begun.
func (f *feeding) fits() bool {
	a := f.begun.action
	between := len(unmarked(a.Inter))
	switch {
	case isBetween(f.b):
		return between < mostBetween
	case isMark(f.b):
		return a.Inter == "" && len(a.Params) == 0
	}
	return f.b != colon && between == 0
}

func (f *feeding) add() {
	if isBetween(f.b) || isMark(f.b) {
		f.begun.action.Inter += string(rune(f.b))
		return
	}
	f.begun.action.Params = withByte(f.begun.action.Params, f.b)
}

// withByte is numbers, and a digit or a ; behind. There may be one number more than are told: digits beyond those go to it.
func withByte(l []int, b byte) []int {
	if len(l) == 0 {
		l = []int{leftOut}
	}
	last := len(l) - 1
	switch {
	case b != separator:
		l[last] = min(max(l[last], 0)*10+int(b-'0'), api.MaxParam)
	case last < api.MaxParams:
		l = append(l, leftOut)
	}
	return l
}

// opened is the state that ESC and its final byte lead to.
func (f *feeding) opened() string {
	if f.begun.action.Inter != "" {
		return inGround
	}
	return opens(f.b)
}

func (f *feeding) put() {
	if len(f.begun.text) < api.MaxString {
		f.begun.text = append(f.begun.text, f.b)
	}
}

func (f *feeding) print(l []rune) {
	for _, r := range l {
		f.tell(api.Action{Kind: api.ActPrint, Rune: r})
	}
}

func (f *feeding) control() {
	f.print(f.decoder.End())
	f.tell(api.Action{Kind: api.ActControl, Byte: f.b})
}

// escape begins a sequence; the rune or the string that its ESC ends is told.
func (f *feeding) escape() {
	afterString := isText(f.state)
	f.print(f.decoder.End())
	if f.state == inOsc || f.state == inData {
		f.tellBegun()
	}
	f.begin(api.ActEsc)
	f.begun.afterString = afterString
	f.state = inEscape
}

// tellEscape tells an ESC and its final byte, but for the one that goes with the end of a string.
func (f *feeding) tellEscape() {
	if f.begun.afterString && f.begun.action.Inter == "" && f.b == '\\' {
		f.drop()
		return
	}
	f.tellBegun()
}

// tellBegun tells what was begun, which is over then.
func (f *feeding) tellBegun() {
	a := f.begun.action
	a.Params = slices.Clone(a.Params[:min(len(a.Params), api.MaxParams)])
	a.Text = string(f.begun.text)
	f.tell(a)
	f.drop()
}

// endIgnored ends a head that tells nothing; nor does the string of a DCS that has one.
func (f *feeding) endIgnored() {
	isDcs := f.begun.action.Kind == api.ActDcs
	f.drop()
	if isDcs {
		f.state = inString
	}
}
