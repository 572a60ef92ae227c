package session

import (
	"strings"

	"mullion/api"
)

// isName tells whether a session or a buffer may be called so, isTitle whether a window may.
func isName(s string) bool {
	return s != "" && len(s) <= api.MaxName && !strings.ContainsFunc(s, func(r rune) bool {
		return r <= ' ' || r > '~' || r == ':' || r == '.'
	})
}

func isTitle(s string) bool {
	return len(s) <= api.MaxName && !strings.ContainsFunc(s, func(r rune) bool { return r < ' ' || r == 127 })
}
