package quote

import (
	"regexp"
	"strings"
	"testing"
)

func TestWord(t *testing.T) {
	for s, want := range map[string]string{
		"":            "''",
		"a.b":         "a.b",
		"a b":         "'a b'",
		"it's $1":     `"it's \$1"`,
		`'"\$`:        `"'\"\\\$"`,
		`"\$`:         `'"\$'`,
		"'":           `"'"`,
		"''":          `"''"`,
		"'{#;~\n\t!'": "\"'{#;~\n\t!'\"",
		"user[3]":     "'user[3]'",
		"ä":           "'ä'",
		"ä'":          `"ä'"`,
		"\x80\x00":    "'\x80\x00'",
		"'\xff":       "\"'\xff\"",
		"-g":          "-g",
		"a\nb":        "'a\nb'",
		"a'b'c":       `"a'b'c"`,
	} {
		if got := Word(s); got != want {
			t.Errorf("%q: %s, must be %s", s, got, want)
		}
	}
}

func TestWordOfEachByte(t *testing.T) {
	bare := regexp.MustCompile(`^[A-Za-z0-9_./:=@%+,-]$`)
	for b := range 256 {
		s := string([]byte{byte(b)})
		want := "'" + s + "'"
		switch {
		case b < 128 && bare.MatchString(s):
			want = s
		case b == '\'':
			want = `"'"`
		}
		for _, fill := range []string{"", "x", "xyz"} {
			in, out := fill+s+fill, strings.Replace(want, s, fill+s+fill, 1)
			if got := Word(in); got != out {
				t.Errorf("%q: %s, must be %s", in, got, out)
			}
		}
		if inner := strings.NewReplacer(`\`, `\\`, `"`, `\"`, `$`, `\$`).Replace(s); Word("'"+s) != `"'`+inner+`"` {
			t.Errorf("an apostrophe and %q: %s", s, Word("'"+s))
		}
	}
}
