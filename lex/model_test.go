package lex

import (
	"math/rand"
	"reflect"
	"regexp"
	"slices"
	"strings"
	"sync"
	"testing"

	"mullion/api"
)

// The model reads a text by regular expressions, piece by piece, and hands errors back.
var (
	skipped = regexp.MustCompile(`^(?:[ \t]|\\\n|#[^\n]*)+`)
	plain   = regexp.MustCompile(`^(?s:[^ \t\n;'"\\$]+|'[^']*'|"(?:[^"\\]|\\.)*"|\\.|\$\{[A-Za-z_]\w*\}|\$[A-Za-z_]\w*|\$)`)
	quoted  = regexp.MustCompile(`^(?s:[^"\\$]+|\\.|\$\{[A-Za-z_]\w*\}|\$[A-Za-z_]\w*|\$)`)
	open    = regexp.MustCompile(`^(?s:['"].*)$`)
	tilde   = regexp.MustCompile(`^~(?:[/ \t\n;]|$)`)
	nested  = regexp.MustCompile(`^(?s:[^{}'"\\]+|'[^']*'|"(?:[^"\\]|\\.)*"|\\.|[{}])`)
	behind  = regexp.MustCompile(`^(?:[ \t\n;]|$)`)
)

func last(env []api.Pair, name string) string {
	v := ""
	for _, p := range env {
		if p.Name == name {
			v = p.Value
		}
	}
	return v
}

// lineOf is the line in which a place of a text lies.
func lineOf(s, rest string) int { return 1 + strings.Count(s[:len(s)-len(rest)], "\n") }

func model(s string, env []api.Pair) ([]Line, api.Errno, int) {
	if len(s) > 65536 {
		return nil, api.ErrLong, 0
	}
	var out []Line
	var words []api.Word
	group, used := 1, false
	finish := func() {
		if words != nil {
			out = append(out, Line{words, group})
			words, used = nil, true
		}
	}
	for rest := s; rest != ""; {
		rest = rest[len(skipped.FindString(rest)):]
		if rest == "" {
			break
		}
		if rest[0] == ';' || rest[0] == '\n' {
			finish()
			if rest[0] == '\n' && used {
				group, used = group+1, false
			}
			rest = rest[1:]
			continue
		}
		w := api.Word{Line: lineOf(s, rest), Block: rest[0] == '{'}
		errno := api.OK
		switch {
		case rest[0] == '}':
			errno = api.ErrForm
		case len(words) == 256, words == nil && len(out) == 1000:
			errno = api.ErrMany
		case w.Block:
			w.Text, rest, errno = modelBlock(rest)
		default:
			w.Text, rest, errno = modelWord(rest, env)
		}
		if errno != api.OK {
			return nil, errno, w.Line
		}
		words = append(words, w)
	}
	finish()
	return out, api.OK, 0
}

func modelBlock(s string) (text, rest string, errno api.Errno) {
	rest = s
	for deep := 0; ; {
		piece := nested.FindString(rest)
		if piece == "" {
			return "", "", api.ErrForm
		}
		rest = rest[len(piece):]
		deep += map[string]int{"{": 1, "}": -1}[piece]
		if deep == 0 {
			break
		}
	}
	if !behind.MatchString(rest) {
		return "", "", api.ErrForm
	}
	return s[1 : len(s)-len(rest)-1], rest, api.OK
}

func modelWord(s string, env []api.Pair) (text, rest string, errno api.Errno) {
	rest = s
	if tilde.MatchString(rest) {
		text, rest = last(env, "HOME"), rest[1:]
	}
	for errno == api.OK && len(text) <= 8192 && !behind.MatchString(rest) {
		piece := plain.FindString(rest)
		var more string
		switch {
		case piece == "$" && strings.HasPrefix(rest, "${"), piece == "" && rest == `\`:
			errno = api.ErrForm
		case piece == "" && !open.MatchString(rest):
			panic("no piece: " + rest)
		case piece == "" && rest[0] == '"':
			more, errno = modelQuoted(rest[1:], env, 8192-len(text))
			if errno == api.OK && len(text)+len(more) <= 8192 {
				errno = api.ErrForm
			}
		case piece == "":
			if more = rest[1:]; len(text)+len(more) <= 8192 {
				errno = api.ErrForm
			}
		case piece[0] == '"':
			more, errno = modelQuoted(piece[1:len(piece)-1], env, 8192-len(text))
		case piece[0] == '\'':
			more = strings.Trim(piece, "'")
		default:
			more = modelPiece(piece, env)
		}
		text += more
		rest = rest[len(piece):]
	}
	if errno == api.OK && len(text) > 8192 {
		errno = api.ErrLong
	}
	if errno != api.OK {
		return "", "", errno
	}
	return text, rest, api.OK
}

// modelQuoted is what stands in quotes, as far as it may be long.
func modelQuoted(s string, env []api.Pair, most int) (text string, errno api.Errno) {
	for s != "" && s != `\` && len(text) <= most {
		piece := quoted.FindString(s)
		if piece == "$" && strings.HasPrefix(s, "${") {
			return "", api.ErrForm
		}
		if letter := map[string]string{`\n`: "\n", `\t`: "\t", `\e`: "\x1b"}[piece]; letter != "" {
			text += letter
		} else {
			text += modelPiece(piece, env)
		}
		s = s[len(piece):]
	}
	return text, api.OK
}

// modelPiece is what a piece that is no quote means.
func modelPiece(piece string, env []api.Pair) string {
	switch {
	case piece == "\\\n":
		return ""
	case piece[0] == '\\':
		return piece[1:]
	case piece[0] == '$' && len(piece) > 1:
		return last(env, strings.Trim(piece, "${}"))
	}
	return piece
}

var testEnv = environment("X", "old", "X", "x", "n", "", "HOME", "/h", "e", " }'\"\n", "M", strings.Repeat("m", 8190), "H", strings.Repeat("h", 4096))

func same(t *testing.T, s string) {
	l, e, line := Split(s, testEnv)
	l2, e2, line2 := model(s, testEnv)
	if e != e2 || line != line2 || len(l)+len(l2) > 0 && !reflect.DeepEqual(l, l2) {
		t.Errorf("%.300q:\n%.300s, must be\n%.300s", s, shown(l, e, line), shown(l2, e2, line2))
	}
}

// each calls with all texts of at most so many of the signs.
func each(signs string, most int, call func(string)) {
	all := []string{""}
	for range most {
		var longer []string
		for _, s := range all {
			for i := range signs {
				longer = append(longer, s+signs[i:i+1])
				call(s + signs[i:i+1])
			}
		}
		all = longer
	}
}

func TestAllShortTexts(t *testing.T) {
	for _, c := range []struct {
		signs string
		most  int
	}{
		{"aX1_ \t\n;#{}'\"\\$~/nte\r", 3}, {"a \n;#{}'\"\\$~/", 4}, {"\n;#a\\ ", 6}, {"{}'\"\\\n", 6}, {"${}X1\"", 6}, {"\"\\n\n$'", 6}, {"~/a' \\", 5}, {"{} a;\n", 5},
	} {
		t.Run(c.signs, func(t *testing.T) {
			t.Parallel()
			each(c.signs, c.most, func(s string) { same(t, s) })
		})
	}
}

// Two bytes of any kind where words, quotes, blocks, names, escapes and remarks go on.
func TestAllPairsOfBytes(t *testing.T) {
	for b := range 65536 {
		two := string([]byte{byte(b >> 8), byte(b)})
		for _, around := range [][2]string{{"", "a"}, {"a", " b"}, {"'", "'\nb"}, {"\"", "\""}, {"{", "}"}, {"$X", "\""}, {"\"\\", "\""}, {"~", "a"}, {"#", "\na"}} {
			same(t, around[0]+two+around[1])
		}
		if t.Failed() {
			return
		}
	}
}

// parts are what texts at random are made of.
var parts = []string{"a", "b", "X", "1", "_", " ", " ", "\t", "\n", "\n", ";", ";", "#", "{", "}", "{", "}", "'", "\"", "\\", "\\\n", "$", "${", "$X", "${X}", "$n", "${e}", "$nosuch", "~", "~/", "/", "n", "t", "e", "\xff", "é", "\r", "\x00", "'a b'", "\"a $X\\n\"", "{ a ; b }", "# x\n", " a", " a", "if ", "%if"}

func anyText(r *rand.Rand, most int) string {
	var s strings.Builder
	for range r.Intn(most + 1) {
		s.WriteString(parts[r.Intn(len(parts))])
	}
	return s.String()
}

func anyWord(r *rand.Rand) string {
	if r.Intn(8) == 0 {
		return anyText(r, 6)
	}
	good := []string{"a", "b1", "-x", "''", "'a b'", "\"q $X\"", "\"\\n\\\"\"", "$X", "${e}", "~", "~/f", "{ c ; d }", "{'}'}", "a'b'\"c\"", "\\;", "x\\\ny", "\"x\\\ny\"", "$n", "a#b", "a{"}
	return good[r.Intn(len(good))]
}

// goodText is one that can mostly be split.
func goodText(r *rand.Rand, most int) string {
	var s strings.Builder
	for range r.Intn(most + 1) {
		s.WriteString(anyWord(r) + []string{" ", " ", "\t", "\n", ";", " ; ", " \\\n", "\n\n", " # r ' \n", ""}[r.Intn(10)])
	}
	return s.String()
}

func TestAnyTexts(t *testing.T) {
	for seed := range 8 {
		t.Run("", func(t *testing.T) {
			t.Parallel()
			r := rand.New(rand.NewSource(int64(seed)))
			for range 20000 {
				same(t, anyText(r, 12))
				same(t, goodText(r, 12))
			}
			for range 100 {
				same(t, goodText(r, 300))
			}
		})
	}
}

// Texts that come to what may be: words, commands, lengths.
func TestAnyGreatTexts(t *testing.T) {
	for seed := range 8 {
		t.Run("", func(t *testing.T) {
			t.Parallel()
			r := rand.New(rand.NewSource(int64(seed)))
			for range 150 {
				some := goodText(r, 3)
				same(t, some+strings.Repeat("a ", 250+r.Intn(8))+goodText(r, 4))
				same(t, some+strings.Repeat([]string{"a;", "{}\n", "a b\n\n", "a;;"}[r.Intn(4)], 996+r.Intn(6))+goodText(r, 4))
				same(t, some+strings.Repeat("\n", 65530-len(some)+r.Intn(8)))
				word := []string{"$M", "$H$H", "\"$M\"", "'" + x(8190) + "'", "\"" + x(8191), "'" + x(8191), x(8191), "$H\"$H", "${H}'" + x(4094) + "'"}[r.Intn(9)]
				same(t, some+" "+word+anyText(r, 4)+"\n"+goodText(r, 2))
			}
		})
	}
}

// Split of Join is one command of these words.
func TestJoinAndSplit(t *testing.T) {
	holds := func(l []string) {
		var words []api.Word
		for i, s := range l {
			words = append(words, api.Word{Text: s, Line: 1 + strings.Count(Join(l[:i]), "\n")})
		}
		want := []Line{{words, 1}}
		if len(l) == 0 {
			want = nil
		}
		if got, e, line := Split(Join(l), testEnv); e != api.OK || line != 0 || !reflect.DeepEqual(got, want) {
			t.Fatalf("%q: %s", l, shown(got, e, line))
		}
	}
	holds(nil)
	each("aX ;\n'\"\\${~#", 4, func(s string) { holds([]string{s}) })
	r := rand.New(rand.NewSource(1))
	for range 20000 {
		l := make([]string, r.Intn(6))
		for i := range l {
			l[i] = anyText(r, 5)
		}
		holds(l)
	}
	for b := range 65536 {
		holds([]string{string([]byte{byte(b >> 8), byte(b)}), string([]byte{'\'', byte(b)})})
	}
	holds(slices.Repeat([]string{"a 'b"}, 256))
	holds([]string{x(8192), strings.Repeat("'", 8192), strings.Repeat("é", 4096)})
	if got := shown(Split(Join(slices.Repeat([]string{"a"}, 257)), nil)); got != "ErrMany 1" {
		t.Error(got)
	}
	if got := shown(Split(Join([]string{x(8193)}), nil)); got != "ErrLong 1" {
		t.Error(got)
	}
}

// bare are commands without their lines, behind so many groups.
func bare(l []Line, groups int) []Line {
	var out []Line
	for _, one := range l {
		next := Line{Group: one.Group + groups}
		for _, w := range one.Words {
			next.Words = append(next.Words, api.Word{Text: w.Text, Block: w.Block})
		}
		out = append(out, next)
	}
	return out
}

// Remarks and empty lines change nothing but lines' numbers; two texts with a line feed between have the commands of both.
func TestWhatFollows(t *testing.T) {
	r := rand.New(rand.NewSource(2))
	empty := func() string {
		return []string{"", "\n", " # r } '\n", "#\n", "\t\n\n", ";\n", "\\\n\n", " # \\\n"}[r.Intn(8)]
	}
	for n := 0; n < 5000; {
		a, b := goodText(r, 6), goodText(r, 6)
		l, e, _ := Split(a, testEnv)
		l2, e2, _ := Split(b, testEnv)
		if e != api.OK || e2 != api.OK {
			continue
		}
		n++
		groups := 0
		if len(l) > 0 {
			groups = l[len(l)-1].Group
		}
		both := a + " #" + strings.Repeat("x", r.Intn(3)) + "\n" + empty() + empty() + b
		if r.Intn(2) == 0 {
			both = a + "\n" + b
		}
		got, e, _ := Split(both, testEnv)
		if e != api.OK || !reflect.DeepEqual(bare(got, 0), append(bare(l, 0), bare(l2, groups)...)) {
			t.Fatalf("%q: %s", both, shown(got, e, 0))
		}
	}
}

// A call has nothing to do with others, ahead of it or beside it.
func TestCallsBesideOneAnother(t *testing.T) {
	var all sync.WaitGroup
	for seed := range 8 {
		all.Go(func() {
			r := rand.New(rand.NewSource(int64(seed)))
			for range 300 {
				same(t, goodText(r, 20))
				s := anyText(r, 10)
				if got := shown(Split(Join([]string{s}), nil)); !strings.HasPrefix(got, "1 ") {
					t.Errorf("%q: %s", s, got)
				}
			}
		})
	}
	all.Wait()
}
