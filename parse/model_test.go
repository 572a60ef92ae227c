package parse

import (
	"fmt"
	"math/rand"
	"reflect"
	"regexp"
	"slices"
	"strings"
	"sync"
	"testing"

	"mullion/api"
	"mullion/format"
	"mullion/lex"
)

// The model goes by the chapter's table as it stands, hands errors back, and reads conditions by calls within one another.

func modelEntry(s string) *entry {
	for i, e := range entries {
		if e.name == s || slices.Contains(e.others, s) {
			return &entries[i]
		}
	}
	var begun []*entry
	for i, e := range entries {
		if s != "" && len(s) <= len(e.name) && e.name[:len(s)] == s {
			begun = append(begun, &entries[i])
		}
	}
	if len(begun) == 1 {
		return begun[0]
	}
	return nil
}

func modelFind(s string) string {
	if e := modelEntry(s); e != nil {
		return e.name
	}
	return "ErrCommand"
}

var (
	dashed = regexp.MustCompile(`(?s)^-.`)
	letter = regexp.MustCompile(`([A-Za-z])(:?)`)
)

// letters are an entry's flags by their letters: does a value go with it?
func (e *entry) letters() map[byte]bool {
	out := map[byte]bool{}
	for _, m := range letter.FindAllStringSubmatch(e.flags, -1) {
		out[m[1][0]] = m[2] != ""
	}
	return out
}

func (e *entry) wants(args int) bool {
	return args >= e.least && (args <= e.most || e.most == -1)
}

func modelWords(l []api.Word) (api.Command, api.Errno) {
	none := api.Command{}
	if len(l) == 0 || l[0].Block || modelEntry(l[0].Text) == nil {
		return none, api.ErrCommand
	}
	e := modelEntry(l[0].Text)
	values, letters := map[byte]string{}, e.letters()
	i := 1
	for ended := false; !ended && i < len(l) && dashed.MatchString(l[i].Text) && !l[i].Block; i++ {
		if l[i].Text == "--" {
			ended = true
			continue
		}
		for at := 1; at < len(l[i].Text); at++ {
			letter, rest := l[i].Text[at], l[i].Text[at+1:]
			valued, has := letters[letter]
			switch {
			case !has, valued && rest == "" && i+1 == len(l):
				return none, api.ErrFlag
			case !valued:
				values[letter] = ""
				continue
			case rest == "":
				i++
				rest = l[i].Text
			}
			values[letter] = rest
			break
		}
	}
	if !e.wants(len(l) - i) {
		return none, api.ErrFlag
	}
	c := api.Command{Name: e.name, Line: l[0].Line}
	for b := range 256 {
		if v, has := values[byte(b)]; has {
			c.Flags = append(c.Flags, api.Flag{Letter: byte(b), Value: v})
		}
	}
	for _, w := range l[i:] {
		c.Args = append(c.Args, w.Text)
	}
	return c, api.OK
}

type modelReader struct {
	lines  []lex.Line
	scope  api.Scope
	groups map[int][]api.Command
	line   int // of what is wrong
}

func modelParse(s string, scope api.Scope, env []api.Pair) (List, api.Errno, int) {
	lines, errno, at := lex.Split(s, env)
	if errno != api.OK {
		return List{}, errno, at
	}
	m := &modelReader{lines: lines, scope: scope, groups: map[int][]api.Command{}}
	ended, errno := m.part(true, 0)
	if errno == api.OK && ended != "" {
		errno, m.line = api.ErrForm, m.lines[0].Words[0].Line
	}
	if errno != api.OK {
		return List{}, errno, m.line
	}
	var l List
	for n := range len(lines) {
		if g := m.groups[n+1]; len(g) > 0 {
			l.Groups = append(l.Groups, g)
		}
	}
	return l, api.OK, 0
}

// part reads what stands up to the directive that ends it (not read yet; empty: the text's end).
func (m *modelReader) part(taken bool, deep int) (string, api.Errno) {
	for len(m.lines) > 0 {
		l := m.lines[0]
		m.line = l.Words[0].Line
		name := "command"
		if !l.Words[0].Block {
			name = l.Words[0].Text
		}
		count := map[string]int{"%if": 2, "%elif": 2, "%else": 1, "%endif": 1}[name]
		switch {
		case count != 0 && len(l.Words) != count, name == "%if" && deep == 16:
			return "", map[bool]api.Errno{true: api.ErrForm, false: api.ErrDeep}[len(l.Words) != count]
		case name == "%if":
			if errno := m.condition(taken, deep+1); errno != api.OK {
				return "", errno
			}
			continue
		case count != 0:
			return name, api.OK
		case taken:
			c, errno := Words(l.Words)
			if errno != api.OK {
				return "", errno
			}
			m.groups[l.Group] = append(m.groups[l.Group], c)
		}
		m.lines = m.lines[1:]
	}
	return "", api.OK
}

// condition reads all from an %if to its %endif.
func (m *modelReader) condition(around bool, deep int) api.Errno {
	begun := m.line
	some, last := false, false
	for name := "%if"; name != "%endif"; {
		taken := around && !some
		if last {
			return api.ErrForm
		}
		if name == "%else" {
			last = true
		} else if taken {
			text, errno := format.Expand(m.lines[0].Words[1].Text, m.scope)
			if errno != api.OK {
				return errno
			}
			taken = text != "" && text != "0"
		}
		some = some || taken
		m.lines = m.lines[1:]
		ended, errno := m.part(taken, deep)
		if errno != api.OK {
			return errno
		}
		if ended == "" {
			m.line = begun
			return api.ErrForm
		}
		name = ended
	}
	m.lines = m.lines[1:]
	return api.OK
}

func oneOf(r *rand.Rand, l ...string) string { return l[r.Intn(len(l))] }

// anyWords are words for a command: mostly such as it may have.
func anyWords(r *rand.Rand) []api.Word {
	e := entries[r.Intn(len(entries))]
	l := []api.Word{{Text: oneOf(r, append(e.others, e.name, e.name)...), Line: r.Intn(9)}}
	if r.Intn(20) == 0 {
		l[0].Text = l[0].Text[:r.Intn(len(l[0].Text))]
	}
	l[0].Block = r.Intn(50) == 0
	letters := strings.ReplaceAll(e.flags, ":", "")
	if r.Intn(8) == 0 || letters == "" {
		letters += "x-:t"
	}
	for range r.Intn(5) {
		text := "-"
		for range 1 + r.Intn(3) {
			text += oneOf(r, strings.Split(letters, "")...)
		}
		l = append(l, api.Word{Text: text, Block: r.Intn(20) == 0})
		if r.Intn(2) == 0 {
			l = append(l, api.Word{Text: oneOf(r, "", "v", "-", "--", "-d", "a b", "-\xff", "20"), Block: r.Intn(5) == 0})
		}
	}
	if r.Intn(3) == 0 {
		l = append(l, api.Word{Text: "--"})
	}
	for range r.Intn(4) {
		l = append(l, api.Word{Text: oneOf(r, "a", "b", "", "-", "--", "-t", "-x"), Block: r.Intn(5) == 0})
	}
	if r.Intn(30) == 0 {
		return nil
	}
	return l
}

func sameWords(t *testing.T, l []api.Word) api.Command {
	c, e := Words(l)
	c2, e2 := modelWords(l)
	if e != e2 || !reflect.DeepEqual(bare(c), bare(c2)) || c.Line != c2.Line {
		t.Errorf("%v: %s %s, must be %s %s", l, shown(c), errnoName(e), shown(c2), errnoName(e2))
	}
	return c
}

// bare is a command without its line; a list of nothing is nil.
func bare(c api.Command) api.Command {
	return api.Command{Name: c.Name, Flags: append([]api.Flag(nil), c.Flags...), Args: append([]string(nil), c.Args...)}
}

func bareGroups(l List) [][]api.Command {
	var out [][]api.Command
	for _, g := range l.Groups {
		var group []api.Command
		for _, c := range g {
			group = append(group, bare(c))
		}
		out = append(out, group)
	}
	return out
}

func TestAnyWords(t *testing.T) {
	right := 0
	for seed := range 8 {
		r := rand.New(rand.NewSource(int64(seed)))
		for range 20000 {
			if c := sameWords(t, anyWords(r)); c.Name != "" {
				right++
				comesBack(t, [][]api.Command{{c}})
			}
		}
	}
	if right < 20000 {
		t.Error("only so many are right: ", right)
	}
}

// All words of a few signs, behind commands that have flags of many kinds.
func TestAllShortWords(t *testing.T) {
	for _, c := range []struct {
		name, signs string
		most        int
	}{{"split-window", "-hlt ", 4}, {"send", "-lt:", 4}, {"set-hook", "-u", 5}, {"if", "-bF ", 6}, {"splitw -t", "-h ", 5}} {
		all := []string{""}
		for range c.most {
			for _, s := range all[:len(all):len(all)] {
				for _, sign := range strings.Split(c.signs, "") {
					all = append(all, s+sign)
				}
			}
		}
		for _, s := range all {
			var l []api.Word
			for _, text := range strings.Split(c.name+" "+s, " ") {
				l = append(l, api.Word{Text: text})
			}
			sameWords(t, l)
			sameWords(t, append(l, api.Word{Text: "-t"}, api.Word{Text: "-q", Block: true}))
		}
	}
}

// comesBack tells that the print of right commands is read as these.
func comesBack(t *testing.T, groups [][]api.Command) {
	t.Helper()
	l := List{groups}
	got, e, line := Parse(Print(l), testScope, testEnv)
	if e != api.OK || line != 0 || !reflect.DeepEqual(bareGroups(got), bareGroups(l)) {
		t.Fatalf("%q: %s", Print(l), shownList(got, e, line))
	}
}

// anyRight is any right command, of any texts.
func anyRight(r *rand.Rand) api.Command {
	anyText := func() string {
		s := ""
		for range r.Intn(4) {
			s += oneOf(r, "a", "B", "1", "-", "-", "--", " ", "\t", "\n", ";", "#", "{", "}", "'", `"`, `\`, "$", "${", "$X", "~", "~/", "%if", "%endif", "#{x}", "\xff", "\x00", "é", ":", "@")
		}
		return s
	}
	e := entries[r.Intn(len(entries))]
	c := api.Command{Name: e.name, Line: r.Intn(5)}
	valued := e.letters()
	for b := range 256 {
		if v, has := valued[byte(b)]; has && r.Intn(2) == 0 {
			f := api.Flag{Letter: byte(b)}
			if v {
				f.Value = anyText()
			}
			c.Flags = append(c.Flags, f)
		}
	}
	most := e.most
	if most < 0 {
		most = 6
	}
	for range e.least + r.Intn(most-e.least+1) {
		c.Args = append(c.Args, anyText())
	}
	return c
}

// wronged is a right command with one thing of it changed.
func wronged(r *rand.Rand, c api.Command) api.Command {
	c = bare(c)
	switch r.Intn(5) {
	case 0:
		c.Name = oneOf(r, "", "new", "oops", c.Name+" ", c.Name[1:], "new-session", "kill-server", "send-keys")
	case 1:
		c.Args = append(c.Args, "more")
	case 2:
		if len(c.Args) > 0 {
			c.Args = c.Args[1:]
		}
	case 3:
		at := r.Intn(len(c.Flags) + 1)
		c.Flags = slices.Insert(c.Flags, at, api.Flag{Letter: oneOf(r, "a", "d", "t", "U", ":", "z", "-")[0]})
	default:
		if len(c.Flags) > 0 {
			c.Flags[r.Intn(len(c.Flags))].Value = oneOf(r, "", "v")
		}
	}
	return c
}

func modelIsRight(c api.Command) bool {
	e := modelEntry(c.Name)
	if e == nil || e.name != c.Name {
		return false
	}
	last := -1
	for _, f := range c.Flags {
		valued, has := e.letters()[f.Letter]
		if !has || last >= int(f.Letter) || f.Value != "" && !valued {
			return false
		}
		last = int(f.Letter)
	}
	return e.wants(len(c.Args))
}

func modelOne(c api.Command) string {
	if !modelIsRight(c) {
		return ""
	}
	s := c.Name
	for _, f := range c.Flags {
		s += " -" + string([]byte{f.Letter})
		if modelEntry(c.Name).letters()[f.Letter] {
			s += " " + lex.Quote(f.Value)
		}
	}
	if len(c.Args) > 0 {
		if dashed.MatchString(c.Args[0]) {
			s += " --"
		}
		s += " " + lex.Join(c.Args)
	}
	return s
}

func TestPrintAndParse(t *testing.T) {
	r := rand.New(rand.NewSource(1))
	rights, wrongs := 0, 0
	for range 20000 {
		var all, right [][]api.Command
		var want strings.Builder
		for range r.Intn(4) {
			var group, kept []api.Command
			var printed []string
			for range r.Intn(4) {
				c := anyRight(r)
				if r.Intn(3) == 0 {
					c = wronged(r, c)
				}
				group = append(group, c)
				one := One(c)
				if one != modelOne(c) {
					t.Fatalf("%s: %q, must be %q", shown(c), one, modelOne(c))
				}
				if one == "" {
					wrongs++
					continue
				}
				rights++
				kept = append(kept, c)
				printed = append(printed, one)
			}
			all = append(all, group)
			if kept != nil {
				right = append(right, kept)
				want.WriteString(strings.Join(printed, " ; ") + "\n")
			}
		}
		if got := Print(List{all}); got != want.String() {
			t.Fatalf("%q, must be %q", got, want.String())
		}
		comesBack(t, right)
	}
	if rights < 20000 || wrongs < 3000 {
		t.Error(rights, wrongs)
	}
}

// What is printed comes back up to just what may be: words, commands, lengths.
func TestPrintAndParseLimits(t *testing.T) {
	send := func(n int, flags ...string) api.Command {
		return made("send-keys", flagged(flags...), slices.Repeat([]string{"a"}, n)...)
	}
	comesBack(t, [][]api.Command{{send(255), send(252, "l", "ta")}, {send(254, "l")}})
	first := send(254)
	first.Args[0] = "-a"
	comesBack(t, [][]api.Command{{first}})
	comesBack(t, [][]api.Command{{made("rename-session", flagged("t"+x(8192)), strings.Repeat("'", 8192))}})
	comesBack(t, slices.Repeat([][]api.Command{{made("list-sessions", nil)}}, 1000))
	comesBack(t, [][]api.Command{slices.Repeat([]api.Command{made("kill-server", nil)}, 1000)})
	for _, c := range []struct {
		group []api.Command
		want  string
	}{
		{[]api.Command{send(256)}, "ErrMany 1"}, {[]api.Command{send(255, "l")}, "ErrMany 1"}, {[]api.Command{send(254, "ta")}, "ErrMany 1"}, {[]api.Command{made("rename-session", nil, x(8193))}, "ErrLong 1"}, {[]api.Command{made("rename-session", flagged("t"+x(8193)), "a")}, "ErrLong 1"}, {slices.Repeat([]api.Command{made("kill-server", nil)}, 1001), "ErrMany 1"}, {slices.Repeat([]api.Command{made("rename-session", nil, x(8192))}, 8), "ErrLong 0"},
	} {
		if got := shownList(Parse(Print(List{[][]api.Command{c.group}}), testScope, testEnv)); got != c.want {
			t.Errorf("%.50s: %.50s, must be %s", shown(c.group[0]), got, c.want)
		}
	}
	// Long lists, of what isn't right and of what is, are printed, too.
	if got := One(send(1 << 16)); len(got) != len("send-keys")+2<<16 {
		t.Error(len(got))
	}
	if got := Print(List{make([][]api.Command, 1<<16)}); got != "" {
		t.Error(len(got))
	}
	if got := One(api.Command{Name: "new-session", Flags: make([]api.Flag, 1<<16)}); got != "" {
		t.Error(len(got))
	}
}

func TestGreatWords(t *testing.T) {
	long := "-" + strings.Repeat("hb", 1<<19) + "l5"
	if got := shownWords(some("splitw", long, "a")); got != `split-window -b -h -l=5 "a"` {
		t.Errorf("%.80s", got)
	}
	if c, e := Words(some(append([]string{"send"}, slices.Repeat([]string{"a"}, 1<<17)...)...)); e != api.OK || len(c.Args) != 1<<17 {
		t.Error(e, len(c.Args))
	}
	if c, e := Words(some(append([]string{"send"}, slices.Repeat([]string{"-t", "a"}, 1<<17)...)...)); e != api.OK || len(c.Args) != 0 || len(c.Flags) != 1 {
		t.Error(e, len(c.Args))
	}
	if got := shownWords(some(x(1 << 20))); got != "ErrCommand" {
		t.Error(got)
	}
}

// anyLine is a command or a directive, mostly a good one.
func anyLine(r *rand.Rand) string {
	switch n := r.Intn(60); {
	case n < 10:
		return "%if " + oneOf(r, "1", "1", "1", "0", "'#{x}'", "'#{x}'", "'#{y}'", "{ }", "{}", "''", "'#{z}'", "$E", "$X")
	case n < 15:
		return "%elif " + oneOf(r, "1", "0", "'#{x}'", "'#{y}'", "{#{y}}")
	case n < 20:
		return "%else"
	case n < 33:
		return "%endif"
	case n < 34:
		return oneOf(r, "%if", "%elif", "%else", "%endif", "{%if}", "'%if'") + oneOf(r, "", " 1", " 1 2", " ''", " '#{'", " {#{}")
	case n < 35:
		return oneOf(r, "oops", "new x", "ls -x", "rename", "{new}", "%", "%fi", "new -s", "kill", "'")
	}
	return oneOf(r, "new", "ls", "killp -t %1", "send -l -- -a b", "if { a\n b } { c }", "rename 'a b'", "splitw -hl 20", "last # x", "next \\\n-a", "", "$X -ds $X")
}

func anyConfig(r *rand.Rand, most int) string {
	var s strings.Builder
	open := 0
	for range r.Intn(most + 1) {
		l := anyLine(r)
		if strings.HasPrefix(l, "%e") && open == 0 && r.Intn(10) > 0 {
			l = "ls"
		}
		open += map[string]int{"%if": 1, "%endif": -1}[strings.Split(l, " ")[0]]
		s.WriteString(l + oneOf(r, "\n", "\n", "\n", " ; ", "\n\n"))
	}
	for ; open > 0 && r.Intn(10) > 0; open-- {
		s.WriteString("%endif" + oneOf(r, "\n", ";"))
	}
	return s.String()
}

func sameParse(t *testing.T, s string) api.Errno {
	l, e, line := Parse(s, testScope, testEnv)
	l2, e2, line2 := modelParse(s, testScope, testEnv)
	got, want := shownList(l, e, line), shownList(l2, e2, line2)
	if got != want || !reflect.DeepEqual(bareGroups(l), bareGroups(l2)) {
		t.Errorf("%q:\n%s, must be\n%s", s, got, want)
	}
	return e
}

func TestAnyConfigs(t *testing.T) {
	for seed := range 8 {
		t.Run("", func(t *testing.T) {
			t.Parallel()
			r := rand.New(rand.NewSource(int64(seed)))
			met := map[api.Errno]int{}
			for range 15000 {
				met[sameParse(t, anyConfig(r, 12))]++
			}
			for range 300 {
				met[sameParse(t, anyConfig(r, 120))]++
			}
			if met[api.OK] < 5000 || met[api.ErrForm] < 500 || met[api.ErrCommand] < 100 || met[api.ErrFlag] < 100 {
				t.Error(met)
			}
		})
	}
}

// Conditions that come to what may be open at once.
func TestAnyDeepConfigs(t *testing.T) {
	r := rand.New(rand.NewSource(3))
	met := map[api.Errno]int{}
	for range 3000 {
		var s strings.Builder
		for range 17 + r.Intn(30) {
			s.WriteString(oneOf(r, "%if 1", "%if 1", "%if 1", "%if 1", "%if 0", "%if", "%else", "%endif", "ls") + "\n")
		}
		met[sameParse(t, s.String())]++
		met[sameParse(t, strings.Repeat("%if 1\n", 13+r.Intn(5))+anyConfig(r, 20))]++
	}
	if met[api.ErrDeep] < 500 || met[api.ErrForm] < 500 {
		t.Error(met)
	}
}

// All texts of a few directives.
func TestAllShortConfigs(t *testing.T) {
	lines := []string{"%if 1\n", "%if 0\n", "%elif 1\n", "%elif 0\n", "%else\n", "%endif\n", "ls\n"}
	all := []string{""}
	for range 5 {
		var longer []string
		for _, s := range all {
			for _, l := range lines {
				longer = append(longer, s+l)
			}
		}
		for _, s := range longer {
			sameParse(t, s)
			sameParse(t, strings.ReplaceAll(s, "\n", ";")+"%endif\nnew")
		}
		all = longer
	}
}

// What a condition doesn't take has no effect but for its own directives: it may be anything that can be split.
func TestWhatIsNotTaken(t *testing.T) {
	r := rand.New(rand.NewSource(4))
	for n := 0; n < 5000; {
		var s strings.Builder
		for range r.Intn(6) {
			s.WriteString(oneOf(r, "oops", "{a}", "new", "''", "'#{'", "-x", "$X", "a{b", "%", "x%if") + oneOf(r, " ", "\n", ";"))
		}
		rest := anyConfig(r, 4)
		want := shownList(Parse("%if 0\n"+strings.Repeat("\n", strings.Count(s.String(), "\n"))+"\n%endif\n"+rest, testScope, testEnv))
		if got := shownList(Parse("%if 0\n"+s.String()+"\n%endif\n"+rest, testScope, testEnv)); got != want {
			t.Fatalf("%q %q: %s, must be %s", s.String(), rest, got, want)
		}
		n++
	}
}

// Any bytes are a configuration, or are refused.
func TestAnyBytes(t *testing.T) {
	r := rand.New(rand.NewSource(5))
	for range 20000 {
		var s strings.Builder
		for range r.Intn(20) {
			s.WriteString(oneOf(r, "new", "ls ", "%if", "%endif", " ", " 1", "\n", ";", "{", "}", "'", `"`, "\\", "-", "-t", "#", "$", "$X", "~", string([]byte{byte(r.Intn(256))})))
		}
		sameParse(t, s.String())
		c, e := Words([]api.Word{{Text: s.String()}, {Text: s.String()}})
		if e == api.OK && !modelIsRight(c) || e != api.OK && !reflect.DeepEqual(c, api.Command{}) {
			t.Errorf("%q: %s %s", s.String(), shown(c), errnoName(e))
		}
		found(s.String())
	}
}

// grow stores into each list of commands, and behind it.
func grow(l List) {
	for i, g := range l.Groups {
		for j := range g {
			g[j].Flags = append(g[j].Flags, api.Flag{Letter: '!'})
			g[j].Args = append(g[j].Args, "more")
			for k := range g[j].Flags {
				g[j].Flags[k].Letter++
			}
			for k := range g[j].Args {
				g[j].Args[k] += "!"
			}
		}
		l.Groups[i] = append(g, api.Command{Name: "more"})
	}
}

// Lists that are answered are new, and share nothing: what is done to one is not seen in another.
func TestAnswersShareNothing(t *testing.T) {
	text := "send -l a b ; send -Xt c d e\nsend f;send;send -t g\nif -b { a } b ; ls"
	for i := range 3 {
		fresh, _, _ := Parse(text, testScope, testEnv)
		l, _, _ := Parse(text, testScope, testEnv)
		grow(List{l.Groups[i : i+1 : i+1]})
		for j := range l.Groups {
			if j != i && !reflect.DeepEqual(l.Groups[j], fresh.Groups[j]) {
				t.Errorf("group %d is seen in %d", i, j)
			}
		}
		for j := range fresh.Groups[i] {
			one := List{[][]api.Command{fresh.Groups[i][j : j+1 : j+1]}}
			again, _, _ := Parse(text, testScope, testEnv)
			grow(one)
			for k := range fresh.Groups[i] {
				if k > j && !reflect.DeepEqual(fresh.Groups[i][k], again.Groups[i][k]) {
					t.Errorf("command %d of group %d is seen in %d", j, i, k)
				}
			}
		}
	}
}

// What is handed in is neither changed nor kept, and what lies behind a list's length is left alone.
func TestWhatIsHandedIn(t *testing.T) {
	guarded := some("send", "-lt", "a", "-X", "b", "c", "-t", "guard")
	before := slices.Clone(guarded)
	c, e := Words(guarded[:6])
	if e != api.OK || shown(c) != `send-keys -X -l -t=a "b" "c"` || !slices.Equal(guarded, before) {
		t.Error(shown(c), guarded)
	}
	for i := range guarded {
		guarded[i].Text = "changed"
	}
	if shown(c) != `send-keys -X -l -t=a "b" "c"` {
		t.Error(shown(c))
	}
	args := []string{"-x", "y", "guard"}
	flags := flagged("l", "ta", "tguard")
	groups := [][]api.Command{{made("send-keys", flags[:2], args[:2]...), made("oops", nil)}, {made("new-session", nil)}, {made("ls", nil)}}
	l := List{groups[:2]}
	want := fmt.Sprint(groups, args, flags)
	if got := Print(l); got != "send-keys -l -t a -- -x y\nnew-session\n" || fmt.Sprint(groups, args, flags) != want {
		t.Errorf("%q %v", got, groups)
	}
	scope := api.Scope{Vars: pairs("x", "1", "y", "guard")}
	env := pairs("X", "new", "X", "guard")
	read, e, _ := Parse("%if '#{x}#{y}'\n$X\n%endif", api.Scope{Vars: scope.Vars[:1]}, env[:1])
	scope.Vars[0].Value, env[0].Value = "0", "ls"
	if shownList(read, e, 0) != "new-session@2" || scope.Vars[1].Value != "guard" || env[1].Value != "guard" {
		t.Error(shownList(read, e, 0), scope, env)
	}
}

// A call has nothing to do with others, ahead of it or beside it.
func TestCallsBesideOneAnother(t *testing.T) {
	var all sync.WaitGroup
	for seed := range 8 {
		all.Go(func() {
			r := rand.New(rand.NewSource(int64(seed)))
			for range 300 {
				sameParse(t, anyConfig(r, 20))
				sameWords(t, anyWords(r))
				c := anyRight(r)
				if One(c) != modelOne(c) || found(c.Name) != c.Name {
					t.Errorf("%s: %s", shown(c), One(c))
				}
			}
		})
	}
	all.Wait()
}
