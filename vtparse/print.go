package vtparse

import (
	"strconv"
	"unicode/utf8"

	"mullion/api"
)

// Print writes actions as bytes.
func Print(l []api.Action) []byte {
	var out []byte
	for _, a := range l {
		if canBeTold(a) {
			out = appendAction(out, a)
		}
	}
	return out
}

func appendAction(out []byte, a api.Action) []byte {
	switch a.Kind {
	case api.ActPrint:
		return utf8.AppendRune(out, a.Rune)
	case api.ActControl:
		return append(out, a.Byte)
	case api.ActEsc:
		out = append(out, esc)
		out = append(out, a.Inter...)
		return append(out, a.Byte)
	case api.ActCsi:
		return appendHead(append(out, esc, '['), a)
	case api.ActOsc:
		out = append(out, esc, ']')
		out = append(out, a.Text...)
		return append(out, bell)
	case api.ActDcs:
		out = appendHead(append(out, esc, 'P'), a)
		out = append(out, a.Text...)
		return append(out, esc, '\\')
	}
	return out
}

func appendHead(out []byte, a api.Action) []byte {
	between := unmarked(a.Inter)
	mark := len(a.Inter) - len(between)
	out = append(out, a.Inter[:mark]...)
	for i, n := range a.Params {
		if i > 0 {
			out = append(out, separator)
		}
		if n != leftOut {
			out = strconv.AppendInt(out, int64(n), 10)
		}
	}
	out = append(out, between...)
	return append(out, a.Byte)
}

// canBeTold tells if bytes can make a parser tell that action.
func canBeTold(a api.Action) bool {
	switch a.Kind {
	case api.ActPrint:
		return a.Rune >= 32 && a.Rune != del && utf8.ValidRune(a.Rune)
	case api.ActControl:
		return isControl(a.Byte) && a.Byte != cancel && a.Byte != substitute && a.Byte != esc
	case api.ActEsc:
		return isFinal(a.Kind, a.Byte) && areBetween(a.Inter) && (a.Inter != "" || opens(a.Byte) == inGround)
	case api.ActCsi:
		return isHeadOf(a)
	case api.ActOsc:
		return isTextOf(a)
	case api.ActDcs:
		return isHeadOf(a) && isTextOf(a)
	}
	return false
}

func isHeadOf(a api.Action) bool {
	return isFinal(a.Kind, a.Byte) && areBetween(unmarked(a.Inter)) && areParams(a.Params)
}

func areBetween(s string) bool {
	for i := range len(s) {
		if !isBetween(s[i]) {
			return false
		}
	}
	return len(s) <= mostBetween
}

// areParams tells if those can be numbers of a sequence: none, and one that is left out, are the same bytes.
func areParams(l []int) bool {
	for _, n := range l {
		if n < leftOut || n > api.MaxParam {
			return false
		}
	}
	return len(l) <= api.MaxParams && (len(l) != 1 || l[0] != leftOut)
}

func isTextOf(a api.Action) bool {
	for i := range len(a.Text) {
		if isControl(a.Text[i]) {
			return false
		}
	}
	return len(a.Text) <= api.MaxString
}
