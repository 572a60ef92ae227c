package vtparse

import "mullion/api"

// Bytes that mean something in every sequence.
const (
	bell       = 7
	cancel     = 24
	substitute = 26
	esc        = 27
	colon      = ':'
	separator  = ';'
	del        = 127
)

const (
	leftOut     = -1 // a parameter without digits
	mostBetween = 2
)

func isControl(b byte) bool { return b < 32 }

func isBetween(b byte) bool { return 32 <= b && b <= 47 }

// isMark tells if a byte may stand ahead of all else in a CSI or a DCS.
func isMark(b byte) bool { return 60 <= b && b <= 63 }

// unmarked is what stands between without the mark ahead.
func unmarked(inter string) string {
	if inter != "" && isMark(inter[0]) {
		return inter[1:]
	}
	return inter
}

// isFinal tells if a byte ends the head of what tells an action of that kind.
func isFinal(kind int, b byte) bool {
	least := byte(64)
	if kind == api.ActEsc {
		least = 48
	}
	return least <= b && b < del
}

// opens is the state that ESC and a final byte lead to, if there is nothing between.
func opens(b byte) string {
	switch b {
	case '[':
		return inCsi
	case ']':
		return inOsc
	case 'P':
		return inDcs
	case 'X', '^', '_':
		return inString
	}
	return inGround
}
