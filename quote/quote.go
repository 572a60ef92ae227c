// Package quote writes texts as words of the configuration language: layers ahead of lex write it too.
package quote

import "strings"

const (
	bare       = "abcdefghijklmnopqrstuvwxyzABCDEFGHIJKLMNOPQRSTUVWXYZ0123456789_./:=@%+,-"
	escaped    = "\"\\$"
	apostrophe = "'"
)

// Word is a text as one word.
func Word(s string) string {
	switch {
	case s != "" && strings.Trim(s, bare) == "":
		return s
	case !strings.Contains(s, apostrophe):
		return apostrophe + s + apostrophe
	}
	var out strings.Builder
	out.WriteByte('"')
	for i := range len(s) {
		if strings.IndexByte(escaped, s[i]) >= 0 {
			out.WriteByte('\\')
		}
		out.WriteByte(s[i])
	}
	out.WriteByte('"')
	return out.String()
}
