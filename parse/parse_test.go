package parse

import (
	"fmt"
	"reflect"
	"slices"
	"strings"
	"testing"

	"mullion/api"
)

// errnoName is a number as the chapter names it.
func errnoName(e api.Errno) string {
	return map[api.Errno]string{api.OK: "OK", api.ErrLong: "ErrLong", api.ErrMany: "ErrMany", api.ErrForm: "ErrForm", api.ErrFlag: "ErrFlag", api.ErrCommand: "ErrCommand", api.ErrDeep: "ErrDeep"}[e]
}

// shown writes a command as its name, flags, values behind =, arguments; @ tells its line, if that is not 1.
func shown(c api.Command) string {
	words := []string{c.Name}
	for _, f := range c.Flags {
		s := "-" + string([]byte{f.Letter})
		if f.Value != "" {
			s += "=" + f.Value
		}
		words = append(words, s)
	}
	for _, a := range c.Args {
		words = append(words, fmt.Sprintf("%q", a))
	}
	s := strings.Join(words, " ")
	if c.Line != 1 {
		s += fmt.Sprint("@", c.Line)
	}
	return s
}

// shownList writes what Parse answers: ; between a group's commands, / between groups.
func shownList(l List, e api.Errno, line int) string {
	if e != api.OK {
		return fmt.Sprint(errnoName(e), " ", line, strings.Repeat(" and groups", len(l.Groups)))
	}
	var groups []string
	for _, g := range l.Groups {
		var commands []string
		for _, c := range g {
			commands = append(commands, shown(c))
		}
		groups = append(groups, strings.Join(commands, " ; "))
	}
	return strings.Join(groups, " / ") + strings.Repeat(" and a line", line)
}

func pairs(l ...string) []api.Pair {
	var out []api.Pair
	for i := 0; i < len(l); i += 2 {
		out = append(out, api.Pair{Name: l[i], Value: l[i+1]})
	}
	return out
}

// testScope is what conditions are asked by: x is true, y is not.
var testScope = api.Scope{Vars: pairs("x", "1", "y", "0", "e", "", "z", "#{y}")}

var testEnv = pairs("X", "no", "X", "new", "D", "-d", "C", "%if", "E", "")

type try struct{ text, want string }

func check(t *testing.T, l []try) {
	t.Helper()
	for _, c := range l {
		if got := shownList(Parse(c.text, testScope, testEnv)); got != c.want {
			t.Errorf("%.80q:\n%.200s, must be\n%.200s", c.text, got, c.want)
		}
	}
}

func x(n int) string { return strings.Repeat("x", n) }

func TestExamples(t *testing.T) {
	for s, want := range map[string]string{"new": "new-session", "movep": "ErrCommand", "kill-s": "ErrCommand", "k": "ErrCommand", "last": "last-window"} {
		if got := found(s); got != want {
			t.Errorf("Find %q: %s", s, got)
		}
	}
	check(t, []try{
		{"splitw -hl 20 -t %1 ; killp", "split-window -h -l=20 -t=%1 ; kill-pane"},
		{"send -- -x a", `send-keys "-x" "a"`}, {"send -x", "ErrFlag 1"}, {"kill-server y", "ErrFlag 1"},
		{"%if '#{x}'\nnew\n%else\noops\n%endif", "new-session@2"},
		{"if { a } { b c }", `if-shell " a " " b c "`},
	})
	if got := shownList(Parse("%if '#{x}'\nnew\n%else\noops\n%endif", api.Scope{}, nil)); got != "ErrCommand 4" {
		t.Error(got)
	}
	if got := One(api.Command{Name: "send-keys", Args: []string{"-x", "it's"}}); got != `send-keys -- -x "it's"` {
		t.Error(got)
	}
}

// found is what Find answers.
func found(s string) string {
	name, e := Find(s)
	if e != api.OK {
		return errnoName(e) + name
	}
	return name
}

// chapter is the chapter's table.
const chapter = `| attach-session | attach | dt: | 0 |
| bind-key | bind | nrN:T: | 1 or more |
| break-pane | breakp | dn:s:t: | 0 |
| capture-pane | capturep | pb:S:E:t: | 0 |
| clear-history | clearhist | t: | 0 |
| copy-mode |  | qt: | 0 |
| delete-buffer | deleteb | b: | 0 |
| detach-client | detach | as:t: | 0 |
| display-message | display | pt: | 0 to 1 |
| find-window | findw | t: | 1 |
| has-session | has | t: | 0 |
| if-shell | if | bFt: | 2 to 3 |
| join-pane | joinp, move-pane | bdhs:t:l: | 0 |
| kill-pane | killp | at: | 0 |
| kill-server |  |  | 0 |
| kill-session |  | at: | 0 |
| kill-window | killw | at: | 0 |
| last-pane | lastp | t: | 0 |
| last-window | last | t: | 0 |
| link-window | linkw | s:t: | 0 |
| list-buffers | lsb | F: | 0 |
| list-clients | lsc | F:t: | 0 |
| list-commands | lscm |  | 0 to 1 |
| list-keys | lsk | T: | 0 |
| list-panes | lsp | aF:st: | 0 |
| list-sessions | ls | F: | 0 |
| list-windows | lsw | aF:t: | 0 |
| load-buffer | loadb | b: | 1 |
| move-window | movew | s:t: | 0 |
| new-session | new | Adn:s:x:y: | 0 |
| new-window | neww | adn:t: | 0 to 1 |
| next-layout | nextl | t: | 0 |
| next-window | next | at: | 0 |
| paste-buffer | pasteb | db:pt: | 0 |
| previous-window | prev | at: | 0 |
| refresh-client | refresh | t: | 0 |
| rename-session | rename | t: | 1 |
| rename-window | renamew | t: | 1 |
| resize-pane | resizep | DLRUZt:x:y: | 0 to 1 |
| resize-window | resizew | t:x:y: | 0 |
| rotate-window | rotatew | DUt: | 0 |
| run-shell | run | bt: | 1 |
| save-buffer | saveb | b: | 1 |
| select-layout | selectl | t: | 0 to 1 |
| select-pane | selectp | DLRUlmMt: | 0 |
| select-window | selectw | lnpt: | 0 |
| send-keys | send | lXt: | 0 or more |
| send-prefix |  | t: | 0 |
| set-buffer | setb | b: | 1 |
| set-environment | setenv | ugt: | 1 to 2 |
| set-hook |  | u | 1 to 2 |
| set-option | set | agpqst:uw | 1 to 2 |
| show-buffer | showb | b: | 0 |
| show-environment | showenv | gt: | 0 to 1 |
| show-hooks |  |  | 0 to 1 |
| show-options | show | gpst:vw | 0 to 1 |
| source-file | source | q | 1 |
| split-window | splitw | bdhl:t:v | 0 to 1 |
| start-server | start |  | 0 |
| swap-pane | swapp | ds:t:UD | 0 |
| swap-window | swapw | s:t: | 0 |
| switch-client | switchc | c:lnpt:T: | 0 |
| unbind-key | unbind | aT: | 0 to 1 |
| unlink-window | unlinkw | kt: | 0 |
| wait-for | wait | LSU | 1 |`

// entry is what the chapter tells of a command.
type entry struct {
	name, flags string
	others      []string
	least, most int
}

var entries = readChapter()

func readChapter() []entry {
	var l []entry
	for _, line := range strings.Split(chapter, "\n") {
		cells := strings.Split(strings.Trim(line, "|"), "|")
		for i := range cells {
			cells[i] = strings.TrimSpace(cells[i])
		}
		e := entry{name: cells[0], flags: cells[2], others: strings.FieldsFunc(cells[1], func(r rune) bool { return r == ',' || r == ' ' })}
		if n, err := fmt.Sscanf(cells[3], "%d to %d", &e.least, &e.most); n != 2 || err != nil {
			fmt.Sscanf(cells[3], "%d", &e.least)
			e.most = e.least
		}
		if strings.HasSuffix(cells[3], "or more") {
			e.most = -1
		}
		l = append(l, e)
	}
	return l
}

func TestTable(t *testing.T) {
	var names []string
	called := map[string]string{}
	for _, e := range entries {
		names = append(names, e.name)
		for _, s := range append([]string{e.name}, e.others...) {
			if called[s] != "" {
				t.Errorf("%s is %s and %s", s, called[s], e.name)
			}
			called[s] = e.name
			if got := found(s); got != e.name {
				t.Errorf("Find %s: %s", s, got)
			}
		}
		if flags, least, most := Table(e.name); flags != e.flags || least != e.least || most != e.most {
			t.Errorf("%s: %q %d %d", e.name, flags, least, most)
		}
	}
	slices.Sort(names)
	if got := Names(); len(names) != 65 || !slices.Equal(got, names) {
		t.Errorf("%d %q", len(got), got)
	}
	Names()[0] = "never"
	if got := Names()[0]; got != "attach-session" {
		t.Error(got)
	}
	for _, s := range []string{"", "new", "new-s", "joinp", "move-pane", "attach-session ", "Attach-session", "kill", "%if", "\x00", "nosuch"} {
		if flags, least, most := Table(s); flags != "" || least != 0 || most != 0 {
			t.Errorf("Table %q: %q %d %d", s, flags, least, most)
		}
	}
}

// All that the names, and other names, begin with, and what is longer by a byte.
func TestFindWhatBegins(t *testing.T) {
	for _, e := range entries {
		for _, whole := range append([]string{e.name}, e.others...) {
			for b := range 256 {
				s := whole + string([]byte{byte(b)})
				if got, want := found(s), modelFind(s); got != want {
					t.Errorf("%q: %s, must be %s", s, got, want)
				}
			}
			for n := range len(whole) + 1 {
				for _, s := range []string{whole[:n], whole[:n] + "x", whole[n:], strings.ToUpper(whole[:n]), whole[:n] + " ", whole[:n] + "\x00"} {
					if got, want := found(s), modelFind(s); got != want {
						t.Errorf("%q: %s, must be %s", s, got, want)
					}
				}
			}
		}
	}
	for _, c := range []try{
		{"", "ErrCommand"}, {" ", "ErrCommand"}, {"-", "ErrCommand"}, {"joinp move-pane", "ErrCommand"}, {"move-p", "ErrCommand"}, {"move", "move-window"}, {"move-", "move-window"}, {"j", "join-pane"}, {"joi", "join-pane"}, {"kill-se", "ErrCommand"}, {"kill-ser", "kill-server"}, {"s", "ErrCommand"}, {"set-", "ErrCommand"}, {"set-h", "set-hook"}, {"send", "send-keys"}, {"send-", "ErrCommand"}, {"sen", "ErrCommand"}, {"show", "show-options"}, {"sho", "ErrCommand"}, {"rename", "rename-session"}, {"rename-", "ErrCommand"}, {"next", "next-window"}, {"next-", "ErrCommand"}, {"source", "source-file"}, {"source-", "source-file"}, {"attach-sessions", "ErrCommand"}, {"NEW", "ErrCommand"}, {"w", "wait-for"}, {"\xff", "ErrCommand"},
	} {
		if got := found(c.text); got != c.want {
			t.Errorf("%q: %s, must be %s", c.text, got, c.want)
		}
	}
}

// some are words; a text in {} is a block's.
func some(texts ...string) []api.Word {
	var l []api.Word
	for i, s := range texts {
		w := api.Word{Text: s, Line: i + 1}
		if strings.HasPrefix(s, "{") && strings.HasSuffix(s, "}") {
			w.Text, w.Block = s[1:len(s)-1], true
		}
		l = append(l, w)
	}
	return l
}

// shownWords is what Words answers.
func shownWords(l []api.Word) string {
	c, e := Words(l)
	if e == api.OK {
		return shown(c)
	}
	if !reflect.DeepEqual(c, api.Command{}) {
		return errnoName(e) + " and " + shown(c)
	}
	return errnoName(e)
}

type wordsTry struct {
	words []string
	want  string
}

func checkWords(t *testing.T, l []wordsTry) {
	t.Helper()
	for _, c := range l {
		if got := shownWords(some(c.words...)); got != c.want {
			t.Errorf("%.80q:\n%.200s, must be\n%.200s", c.words, got, c.want)
		}
	}
}

func TestWordsNames(t *testing.T) {
	checkWords(t, []wordsTry{
		{nil, "ErrCommand"}, {[]string{""}, "ErrCommand"}, {[]string{"{new}"}, "ErrCommand"}, {[]string{"{}"}, "ErrCommand"}, {[]string{"oops"}, "ErrCommand"}, {[]string{"oops", "-q"}, "ErrCommand"}, {[]string{"kill"}, "ErrCommand"}, {[]string{"-d"}, "ErrCommand"}, {[]string{"--", "new"}, "ErrCommand"}, {[]string{"%if", "1"}, "ErrCommand"}, {[]string{"%endif"}, "ErrCommand"},
		{[]string{"new"}, "new-session"}, {[]string{"new-s"}, "new-session"}, {[]string{"new-session"}, "new-session"}, {[]string{"move-pane"}, "join-pane"}, {[]string{"joinp"}, "join-pane"}, {[]string{"ls"}, "list-sessions"},
	})
	for _, line := range []int{0, 1, 7, -3, 1 << 40} {
		l := []api.Word{{Text: "rename", Line: line}, {Text: "-t", Line: 2}, {Text: "a", Line: 3}, {Text: "b", Line: 4}}
		if c, e := Words(l); e != api.OK || c.Line != line || shown(c) != shown(api.Command{Name: "rename-session", Flags: []api.Flag{{Letter: 't', Value: "a"}}, Args: []string{"b"}, Line: line}) {
			t.Error(line, c, e)
		}
	}
}

func TestWordsFlags(t *testing.T) {
	checkWords(t, []wordsTry{
		// Letters, with and without values.
		{[]string{"splitw", "-h"}, "split-window -h"}, {[]string{"splitw", "-h", "-b"}, "split-window -b -h"}, {[]string{"splitw", "-hb"}, "split-window -b -h"}, {[]string{"splitw", "-hhbhb", "-h"}, "split-window -b -h"}, {[]string{"splitw", "-vdbh"}, "split-window -b -d -h -v"},
		{[]string{"splitw", "-l", "20"}, "split-window -l=20"}, {[]string{"splitw", "-l20"}, "split-window -l=20"}, {[]string{"splitw", "-hl", "20"}, "split-window -h -l=20"}, {[]string{"splitw", "-hl20"}, "split-window -h -l=20"}, {[]string{"splitw", "-lh", "20"}, `split-window -l=h "20"`}, {[]string{"splitw", "-hl", "20", "-t", "%1"}, "split-window -h -l=20 -t=%1"},
		{[]string{"splitw", "-l", "20", "-l", "30"}, "split-window -l=30"}, {[]string{"splitw", "-l20", "-t", "a", "-l30"}, "split-window -l=30 -t=a"}, {[]string{"splitw", "-la", "-l", ""}, "split-window -l"}, {[]string{"splitw", "-l", "", "-la"}, "split-window -l=a"},
		{[]string{"splitw", "-l-"}, "split-window -l=-"}, {[]string{"splitw", "-l:"}, "split-window -l=:"}, {[]string{"splitw", "-l "}, "split-window -l= "}, {[]string{"splitw", "-l\x00\xff"}, "split-window -l=\x00\xff"},
		// The next word is the value, whatever it is.
		{[]string{"splitw", "-t", "--"}, "split-window -t=--"}, {[]string{"splitw", "-t", "-h"}, "split-window -t=-h"}, {[]string{"splitw", "-t", "-h", "-h"}, "split-window -h -t=-h"}, {[]string{"splitw", "-t", "-"}, "split-window -t=-"}, {[]string{"splitw", "-t", ""}, "split-window -t"}, {[]string{"splitw", "-t", "{a b}"}, "split-window -t=a b"}, {[]string{"splitw", "-t", "{-h}", "-h"}, "split-window -h -t=-h"}, {[]string{"splitw", "-t", "--", "--", "-x"}, `split-window -t=-- "-x"`}, {[]string{"splitw", "-t", "-t"}, "split-window -t=-t"}, {[]string{"splitw", "-t", "-t", "-t", "-l"}, "split-window -t=-l"},
		{[]string{"splitw", "-t"}, "ErrFlag"}, {[]string{"splitw", "-hl"}, "ErrFlag"}, {[]string{"splitw", "-t", "a", "-t"}, "ErrFlag"}, {[]string{"splitw", "-t", "-t", "-t"}, "ErrFlag"},
		// Flags that the command has not.
		{[]string{"splitw", "-x"}, "ErrFlag"}, {[]string{"splitw", "-hx"}, "ErrFlag"}, {[]string{"splitw", "-H"}, "ErrFlag"}, {[]string{"splitw", "-:"}, "ErrFlag"}, {[]string{"splitw", "-h:"}, "ErrFlag"}, {[]string{"splitw", "-h-"}, "ErrFlag"}, {[]string{"splitw", "--h"}, "ErrFlag"}, {[]string{"splitw", "---"}, "ErrFlag"}, {[]string{"splitw", "-\x00"}, "ErrFlag"}, {[]string{"splitw", "-\xff"}, "ErrFlag"}, {[]string{"splitw", "-é"}, "ErrFlag"}, {[]string{"splitw", "- "}, "ErrFlag"}, {[]string{"splitw", "-1"}, "ErrFlag"}, {[]string{"kill-server", "-a"}, "ErrFlag"}, {[]string{"kill-server", "-:"}, "ErrFlag"}, {[]string{"show-hooks", "-g"}, "ErrFlag"}, {[]string{"killp", "-t", "a", "-x"}, "ErrFlag"},
		// What ends the flags.
		{[]string{"send", "a", "-l"}, `send-keys "a" "-l"`}, {[]string{"send", "-l", "a", "-l"}, `send-keys -l "a" "-l"`}, {[]string{"send", "-", "-l"}, `send-keys "-" "-l"`}, {[]string{"send", "", "-l"}, `send-keys "" "-l"`}, {[]string{"send", "{-l}", "-l"}, `send-keys "-l" "-l"`}, {[]string{"send", "{--}", "-l"}, `send-keys "--" "-l"`}, {[]string{"send", "{}", "-l"}, `send-keys "" "-l"`},
		{[]string{"send", "--"}, "send-keys"}, {[]string{"send", "--", "-l"}, `send-keys "-l"`}, {[]string{"send", "--", "--"}, `send-keys "--"`}, {[]string{"send", "-l", "--", "-X", "--"}, `send-keys -l "-X" "--"`}, {[]string{"send", "a", "--"}, `send-keys "a" "--"`}, {[]string{"send", "-lX", "--", "{-l}"}, `send-keys -X -l "-l"`}, {[]string{"send", "--", "-x", "a"}, `send-keys "-x" "a"`}, {[]string{"send", "-t--"}, "send-keys -t=--"},
		// Letters rise by their bytes: capitals are ahead.
		{[]string{"selectp", "-tx", "-mlMURLD"}, "select-pane -D -L -M -R -U -l -m -t=x"}, {[]string{"swapp", "-U", "-dt", "a", "-sb", "-D"}, "swap-pane -D -U -d -s=b -t=a"}, {[]string{"new", "-y", "5", "-x4", "-s", "n", "-nw", "-dA"}, "new-session -A -d -n=w -s=n -x=4 -y=5"}, {[]string{"setenv", "-u", "-g", "-ta", "A"}, `set-environment -g -t=a -u "A"`},
	})
}

func TestWordsArguments(t *testing.T) {
	for _, e := range entries {
		for n := range 6 {
			want := "ErrFlag"
			if n >= e.least && (e.most < 0 || n <= e.most) {
				want = strings.TrimSpace(e.name + " " + strings.Join(slices.Repeat([]string{`"a"`}, n), " "))
			}
			if got := shownWords(some(append([]string{e.name}, slices.Repeat([]string{"a"}, n)...)...)); got != want {
				t.Errorf("%s with %d: %s", e.name, n, got)
			}
			if got := shownWords(some(append([]string{e.name, "--"}, slices.Repeat([]string{"{a}"}, n)...)...)); got != want {
				t.Errorf("%s -- with %d: %s", e.name, n, got)
			}
		}
	}
	checkWords(t, []wordsTry{
		{[]string{"rename", "-t", "a"}, "ErrFlag"}, {[]string{"rename", "-t", "a", "b"}, `rename-session -t=a "b"`}, {[]string{"rename", "a", "-t", "b"}, "ErrFlag"}, {[]string{"rename", ""}, `rename-session ""`}, {[]string{"rename", "-"}, `rename-session "-"`}, {[]string{"rename", "--"}, "ErrFlag"}, {[]string{"rename", "--", "-a"}, `rename-session "-a"`}, {[]string{"rename", "{-a}"}, `rename-session "-a"`},
		{[]string{"if", "{ a }", "{ b c }"}, `if-shell " a " " b c "`}, {[]string{"if", "-F", "1", "{a\n}", "b"}, `if-shell -F "1" "a\n" "b"`}, {[]string{"killp", "-a", "b"}, "ErrFlag"}, {[]string{"killp", "-ab"}, "ErrFlag"}, {[]string{"killp", "-atb"}, "kill-pane -a -t=b"},
	})
}

// Each letter of each command, each byte that is none.
func TestWordsEachFlag(t *testing.T) {
	for _, e := range entries {
		args := slices.Repeat([]string{"a"}, e.least)
		behind := strings.Repeat(` "a"`, e.least)
		for b := range 256 {
			letter := string([]byte{byte(b)})
			at := strings.Index(e.flags, letter)
			has := at >= 0 && b != ':'
			valued := has && strings.HasPrefix(e.flags[at+1:], ":")
			words := func(l ...string) string { return shownWords(some(slices.Concat([]string{e.name}, l, args)...)) }
			alone, apart, joined := "ErrFlag", "ErrFlag", "ErrFlag"
			switch {
			case valued:
				apart = e.name + " -" + letter + "=v" + behind
				joined = e.name + " -" + letter + "=" + letter + behind
			case has:
				alone = e.name + " -" + letter + behind
				joined = alone
			}
			if got := words("-"+letter, "--"); !valued && b != '-' && got != alone {
				t.Errorf("%s -%q: %s", e.name, letter, got)
			}
			if got := words("-"+letter, "v"); valued && got != apart {
				t.Errorf("%s -%q v: %s", e.name, letter, got)
			}
			if got := words("-" + letter + letter); got != joined {
				t.Errorf("%s -%q twice: %s", e.name, letter, got)
			}
		}
	}
}

func TestParseGroups(t *testing.T) {
	check(t, []try{
		{"", ""}, {" \n;\n# new\n", ""}, {"new", "new-session"}, {"new;ls", "new-session ; list-sessions"}, {"new\nls", "new-session / list-sessions@2"}, {"new ; ls\nkillp;killw", "new-session ; list-sessions / kill-pane@2 ; kill-window@2"}, {"\n\nnew\n\n\nls ; ls # ls\n", "new-session@3 / list-sessions@6 ; list-sessions@6"},
		{"rename \\\na ; ls", `rename-session "a" ; list-sessions@2`}, {"\\\nnew", "new-session@2"}, {"rename 'a\nb' ; ls\nls", "rename-session \"a\\nb\" ; list-sessions@2 / list-sessions@3"}, {"if { a ; b\n} { c } ; ls", `if-shell " a ; b\n" " c " ; list-sessions@2`}, {"$X $D -s '$X'", "new-session -d -s=$X"}, {"n''ew \"-d\" '-s' {-d}", "new-session -d -s=-d"}, {"new ''", "ErrFlag 1"},
		{"oops", "ErrCommand 1"}, {"new\noops", "ErrCommand 2"}, {"new ; oops", "ErrCommand 1"}, {"new -\\\nq", "ErrFlag 1"}, {"\n\nnew \\\n-q", "ErrFlag 3"}, {"new\nls x\noops", "ErrFlag 2"}, {"oops\nls x", "ErrCommand 1"}, {"{new}", "ErrCommand 1"}, {"''", "ErrCommand 1"}, {"a\\\n\\\n'\nb", "ErrForm 1"}, {"-t", "ErrCommand 1"}, {"\n{ %if }", "ErrCommand 2"}, {"%ifs 1", "ErrCommand 1"}, {"%", "ErrCommand 1"}, {"%IF 1\n%endif", "ErrCommand 1"}, {"a%if", "ErrCommand 1"},
		// What lex refuses is told ahead of all else.
		{"oops\n'", "ErrForm 2"}, {"%endif\n}", "ErrForm 2"}, {"new\n\n${", "ErrForm 3"}, {strings.Repeat("a ", 257), "ErrMany 1"}, {strings.Repeat("\n", 65537), "ErrLong 0"}, {"oops\n" + x(8193), "ErrLong 2"}, {strings.Repeat("ls\n", 1000) + "ls", "ErrMany 1001"}, {strings.Repeat("\n", 65536), ""}, {"%if 0\n'", "ErrForm 2"}, {"%if 0\n" + strings.Repeat("a ", 257), "ErrMany 2"},
	})
	l, e, line := Parse(strings.Repeat("ls;", 1000), testScope, nil)
	if e != api.OK || line != 0 || len(l.Groups) != 1 || len(l.Groups[0]) != 1000 {
		t.Error(len(l.Groups), e, line)
	}
}

func TestConditions(t *testing.T) {
	check(t, []try{
		{"%if 1\nnew\n%endif", "new-session@2"}, {"%if 0\nnew\n%endif", ""}, {"%if ''\nnew\n%endif", ""}, {"%if 00\nnew\n%endif", "new-session@2"}, {"%if '#{x}'\nnew\n%endif", "new-session@2"}, {"%if '#{y}'\nnew\n%endif", ""}, {"%if '#{e}'\nnew\n%endif", ""}, {"%if '#{no}'\nnew\n%endif", ""}, {"%if '#{?y,0,1}'\nnew\n%endif", "new-session@2"}, {"%if '#{z}'\nnew\n%endif", "new-session@2"}, {"%if '#{E:z}'\nnew\n%endif", ""}, {"%if y\nnew\n%endif", "new-session@2"}, {"%if '0 '\nnew\n%endif", "new-session@2"}, {"%if { 0 }\nnew\n%endif", "new-session@2"}, {"%if {0}\nnew\n%endif", ""}, {"%if {#{x}}\nnew\n%endif", "new-session@2"}, {"%if $E\nnew\n%endif", ""}, {"%if $X\nnew\n%endif", "new-session@2"}, {"%if -t\nnew\n%endif", "new-session@2"}, {"%if --\nnew\n%endif", "new-session@2"}, {"$C 0\nnew\n'%endif'", ""}, {"\"%if\" 1\nnew\n%end''if", "new-session@2"},
		{"%if 1\nnew\n%else\nls\n%endif\nkillp", "new-session@2 / kill-pane@6"}, {"%if 0\nnew\n%else\nls\n%endif\nkillp", "list-sessions@4 / kill-pane@6"},
		{"%if 1\nnew\n%elif 1\nls\n%else\nkillp\n%endif", "new-session@2"}, {"%if 0\nnew\n%elif 1\nls\n%else\nkillp\n%endif", "list-sessions@4"}, {"%if 0\nnew\n%elif 0\nls\n%else\nkillp\n%endif", "kill-pane@6"}, {"%if 0\nnew\n%elif 0\nls\n%elif 1\nkillw\n%elif 1\nkillp\n%else\nlast\n%endif", "kill-window@6"}, {"%if 1\nnew\n%elif 0\nls\n%elif 1\nkillw\n%endif", "new-session@2"}, {"%if 0\nnew\n%elif 1\n%elif 1\nls\n%else\nlast\n%endif", ""}, {"%if 1\n%endif", ""}, {"%if 0\n%else\n%endif", ""},
		// Within one another.
		{"%if 1\n%if 1\nnew\n%endif\nls\n%endif", "new-session@3 / list-sessions@5"}, {"%if 1\n%if 0\nnew\n%endif\nls\n%endif", "list-sessions@5"}, {"%if 0\n%if 1\nnew\n%endif\nls\n%endif", ""}, {"%if 0\n%if 0\nnew\n%else\nls\n%endif\n%else\nlast\n%endif", "last-window@8"}, {"%if 0\n%if 0\nnew\n%elif 1\nls\n%endif\n%endif", ""}, {"%if 1\n%if 0\nnew\n%else\nls\n%endif\n%else\nlast\n%endif", "list-sessions@5"}, {"%if 1\nnew\n%else\n%if 1\nls\n%else\nlast\n%endif\n%endif", "new-session@2"}, {"%if 0\n%elif 1\n%if 0\nnew\n%else\n%if 1\nls\n%endif\n%endif\n%endif", "list-sessions@7"}, {"%if 1\n%if 1\n%endif\n%if 0\n%endif\nnew\n%endif", "new-session@6"}, {"%if 0\n%if 1\n%endif\n%elif 1\nnew\n%endif", "new-session@5"},
		// Commands that aren't taken aren't looked at.
		{"%if 0\noops ; new -q x ; {a} ; ''\n%endif", ""}, {"%if 1\noops\n%endif", "ErrCommand 2"}, {"%if 1\nnew\n%else\noops\n%endif", "new-session@2"}, {"%if 0\n%elif 0\noops\n%else\nls\n%endif", "list-sessions@5"}, {"%if 1\n%elif 1\noops\n%endif", ""}, {"%if 0\n%if 1\noops\n%endif\n%endif\noops", "ErrCommand 6"},
		// Directives in a group.
		{"%if 1 ; new ; %endif", "new-session"}, {"new ; %if 1 ; killp ; %endif ; ls", "new-session ; kill-pane ; list-sessions"}, {"new ; %if 0 ; killp ; %else ; last ; %endif ; ls\nls", "new-session ; last-window ; list-sessions / list-sessions@2"}, {"%if 0 ; new\nls ; %else ; last\nls ; %endif ; killp", "last-window@2 / list-sessions@3 ; kill-pane@3"}, {"new ; %if 0\nls ; %endif ; last", "new-session / last-window@2"}, {"%if 0\nnew\n%endif\nls ; ls\n%if 0\nnew\n%endif\nlast", "list-sessions@4 ; list-sessions@4 / last-window@8"},
	})
}

func TestWrongConditions(t *testing.T) {
	check(t, []try{
		{"%if", "ErrForm 1"}, {"%if 1 2\n%endif", "ErrForm 1"}, {"%if 1 ''\n%endif", "ErrForm 1"}, {"%if 1 {a}", "ErrForm 1"}, {"%if 1\n%elif\n%endif", "ErrForm 2"}, {"%if 1\n%elif 1 2\n%endif", "ErrForm 2"}, {"%if 1\n%else 1\n%endif", "ErrForm 2"}, {"%if 1\n%else ''\n%endif", "ErrForm 2"}, {"%if 1\n%endif 1", "ErrForm 2"}, {"%if 1\n%endif {}", "ErrForm 2"}, {"%if 1\n%endif # 1", ""}, {"new\n\n%if \\\n1 2", "ErrForm 3"},
		{"%elif 1", "ErrForm 1"}, {"%else", "ErrForm 1"}, {"%endif", "ErrForm 1"}, {"%if 1\n%endif\n%endif", "ErrForm 3"}, {"%if 1\n%endif\n%else", "ErrForm 3"}, {"%if 1\n%endif\n%elif 1", "ErrForm 3"}, {"%elif '#{'", "ErrForm 1"}, {"new ; %endif", "ErrForm 1"},
		{"%if 1\n%else\n%else\n%endif", "ErrForm 3"}, {"%if 1\n%else\n%elif 1\n%endif", "ErrForm 3"}, {"%if 0\n%else\n%else", "ErrForm 3"}, {"%if 0\n%else\n%elif 0", "ErrForm 3"}, {"%if 0\n%elif 1\n%else\n%elif 1", "ErrForm 4"}, {"%if 1\n%else\n%if 1\n%else\n%endif\n%else", "ErrForm 6"}, {"%if 1\n%else\n%if 1\n%else\n%endif\n%endif", ""}, {"%if 1\n%if 1\n%else\n%endif\n%else\n%endif", ""},
		// Not closed.
		{"%if 1", "ErrForm 1"}, {"%if 0", "ErrForm 1"}, {"new\n%if 1\nls\n\n", "ErrForm 2"}, {"%if 1\n%else", "ErrForm 1"}, {"%if 0\n%elif 1\nnew", "ErrForm 1"}, {"%if 1\n%if 1", "ErrForm 2"}, {"%if 1\n%if 0\n%endif", "ErrForm 1"}, {"%if 1\n%endif\n%if 1\n", "ErrForm 3"}, {"%if 1\n%if 1\n%endif\n%if 1\n%else", "ErrForm 4"}, {"%if 0\n%if 0\n%if 1\n%endif", "ErrForm 2"}, {"%if \\\n1", "ErrForm 1"},
		// In what isn't taken, too.
		{"%if 0\n%if\n%endif\n%endif", "ErrForm 2"}, {"%if 0\n%if 1 2\n%endif\n%endif", "ErrForm 2"}, {"%if 0\n%endif 1", "ErrForm 2"}, {"%if 0\n%else 1", "ErrForm 2"}, {"%if 0\n%if 1\n%else\n%else\n%endif\n%endif", "ErrForm 4"}, {"%if 0\n%if 1\n%else\n%elif 1\n%endif\n%endif", "ErrForm 4"}, {"%if 0\n%if 1\n%endif", "ErrForm 1"}, {"%if 0\n%if 1", "ErrForm 2"},
		// What is expanded, and what isn't.
		{"%if '#{'\n%endif", "ErrForm 1"}, {"%if 0\n%elif '#{'\n%endif", "ErrForm 2"}, {"%if 1\n%elif '#{'\n%endif", ""}, {"%if 0\n%elif 1\n%elif '#{'\n%endif", ""}, {"%if 0\n%elif 0\n%elif '#{'\n%endif", "ErrForm 3"}, {"%if 0\n%if '#{'\n%endif\n%endif", ""}, {"%if 0\n%if 0\n%elif '#{'\n%endif\n%endif", ""}, {"%if 1\n%else\n%if '#{'\n%elif '#{'\n%endif\n%endif", ""}, {"%if 1\n%if 0\n%elif '#{'\n%endif\n%endif", "ErrForm 3"}, {"%if 0\n%else\n%if '#{'\n%endif\n%endif", "ErrForm 3"}, {"%if 0\n%elif 1\n%if '#{'", "ErrForm 3"},
		{"\n%if '" + strings.Repeat("#{?", 17) + strings.Repeat("}", 17) + "'\n%endif", "ErrDeep 2"}, {"%if {" + x(8192) + "}\nnew\n%endif", "new-session@2"}, {"%if {" + x(8193) + "}\nnew\n%endif", "ErrLong 1"}, {"%if 1\n%elif {" + x(8193) + "}\n%endif", ""},
		{"%if '" + strings.Repeat("#{x}", 2000) + "'\nls\n%endif", "list-sessions@2"},
		// What comes first is told first.
		{"oops\n%endif", "ErrCommand 1"}, {"%endif\noops", "ErrForm 1"}, {"%if 1\noops", "ErrCommand 2"}, {"%if 1\nnew x\n%else\n%else", "ErrFlag 2"}, {"%if 0\noops\n%else 1", "ErrForm 3"},
	})
}

func TestDeepConditions(t *testing.T) {
	nested := func(asked string, n int) string {
		return strings.Repeat("%if "+asked+"\n", n) + "new\n" + strings.Repeat("%endif\n", n)
	}
	check(t, []try{
		{nested("1", 16), "new-session@17"}, {nested("1", 17), "ErrDeep 17"}, {nested("0", 16), ""}, {nested("0", 17), "ErrDeep 17"}, {nested("1", 16) + nested("1", 16), "new-session@17 / new-session@50"},
		{strings.Repeat("%if 1\n", 16) + "%if", "ErrForm 17"}, {strings.Repeat("%if 1\n", 16) + "%if 1 2", "ErrForm 17"}, {strings.Repeat("%if 1\n", 16) + "%if '#{'", "ErrDeep 17"}, {strings.Repeat("%if 1\n", 16) + "%else\n%endif\n%if 1", "ErrForm 19"}, {strings.Repeat("%if 1\n", 16) + "%else\n%if 1", "ErrDeep 18"}, {strings.Repeat("%if 1\n", 16), "ErrForm 16"}, {strings.Repeat("%if 1\n", 16) + "%endif\n", "ErrForm 15"},
		{strings.Repeat("%if 1;%endif;", 500), ""},
	})
}

func made(name string, flags []api.Flag, args ...string) api.Command {
	return api.Command{Name: name, Flags: flags, Args: args, Line: 9}
}

// flagged are flags: a letter, and what goes with it.
func flagged(l ...string) []api.Flag {
	var out []api.Flag
	for _, s := range l {
		out = append(out, api.Flag{Letter: s[0], Value: s[1:]})
	}
	return out
}

func TestOne(t *testing.T) {
	for i, c := range []struct {
		command api.Command
		want    string
	}{
		{made("new-session", nil), "new-session"}, {made("new-session", flagged("A", "d", "nw", "sa b", "x")), "new-session -A -d -n w -s 'a b' -x ''"}, {made("split-window", flagged("h", "l20", "t%1"), "a"), "split-window -h -l 20 -t %1 a"}, {made("split-window", flagged("t--"), "--"), "split-window -t -- -- --"}, {made("split-window", flagged("t-h")), "split-window -t -h"}, {made("select-pane", flagged("D", "L", "M", "R", "U", "l", "m", "t")), "select-pane -D -L -M -R -U -l -m -t ''"},
		{made("send-keys", nil, "a", "-l"), "send-keys a -l"}, {made("send-keys", nil, "-l", "a"), "send-keys -- -l a"}, {made("send-keys", nil, "-"), "send-keys -"}, {made("send-keys", nil, "-", "-l"), "send-keys - -l"}, {made("send-keys", nil, "--"), "send-keys -- --"}, {made("send-keys", nil, ""), "send-keys ''"}, {made("send-keys", nil, "", "-x"), "send-keys '' -x"}, {made("send-keys", flagged("l"), "- x"), "send-keys -l -- '- x'"}, {made("send-keys", nil, "-x", "it's"), `send-keys -- -x "it's"`}, {made("send-keys", nil, " -x"), "send-keys ' -x'"}, {made("send-keys", nil, ";", "#", "{", "}", "~", "$X", "\n", "\\", "a;b"), "send-keys ';' '#' '{' '}' '~' '$X' '\n' '\\' 'a;b'"}, {made("send-keys", nil, `'"$\`), `send-keys "'\"\$\\"`}, {made("if-shell", flagged("F"), "1", " a ; b "), "if-shell -F 1 ' a ; b '"}, {made("if-shell", nil, "%if", "%endif"), "if-shell %if %endif"}, {made("bind-key", flagged("r"), "C-b", "new", ";", "ls"), "bind-key -r C-b new ';' ls"}, {made("kill-server", nil), "kill-server"},
		{api.Command{Name: "list-keys", Flags: []api.Flag{}, Args: []string{}, Line: -1}, "list-keys"},
		// Commands that aren't right.
		{made("", nil), ""}, {made("new", nil), ""}, {made("new-s", nil), ""}, {made("move-pane", nil), ""}, {made("%if", nil, "1"), ""}, {made("oops", nil), ""}, {made("New-session", nil), ""}, {made("new-session ", nil), ""},
		{made("new-session", flagged("q")), ""}, {made("new-session", flagged("a")), ""}, {made("new-session", flagged(":")), ""}, {made("new-session", flagged(":x")), ""}, {made("new-session", flagged("-")), ""}, {made("new-session", flagged("\x00")), ""}, {made("new-session", flagged("\xff")), ""}, {made("kill-server", flagged("a")), ""}, {made("new-session", flagged("d", "q", "s")), ""},
		{made("new-session", flagged("d", "A")), ""}, {made("new-session", flagged("d", "d")), ""}, {made("new-session", flagged("sa", "sa")), ""}, {made("new-session", flagged("sa", "sb")), ""}, {made("new-session", flagged("A", "sa", "d")), ""}, {made("new-session", flagged("t")), ""},
		{made("new-session", flagged("d1")), ""}, {made("new-session", flagged("A", "d ")), ""}, {made("new-session", flagged("A-", "sa")), ""},
		{made("new-session", nil, "a"), ""}, {made("new-session", nil, ""), ""}, {made("rename-session", nil), ""}, {made("rename-session", nil, "a", "b"), ""}, {made("if-shell", nil, "a"), ""}, {made("if-shell", nil, "a", "b", "c", "d"), ""}, {made("bind-key", nil), ""}, {made("split-window", nil, "a", "b"), ""}, {made("show-hooks", nil, "a", "b"), ""},
	} {
		if got := One(c.command); got != c.want {
			t.Errorf("%d: %s: %q, must be %q", i, shown(c.command), got, c.want)
		}
	}
}

func TestPrint(t *testing.T) {
	right, other, wrong := made("new-session", flagged("sa b")), made("send-keys", nil, "-x"), made("oops", nil)
	for i, c := range []struct {
		groups [][]api.Command
		want   string
	}{
		{nil, ""}, {[][]api.Command{}, ""}, {[][]api.Command{{}}, ""}, {[][]api.Command{nil, {}}, ""}, {[][]api.Command{{right}}, "new-session -s 'a b'\n"}, {[][]api.Command{{right, other}}, "new-session -s 'a b' ; send-keys -- -x\n"}, {[][]api.Command{{right}, {other}}, "new-session -s 'a b'\nsend-keys -- -x\n"}, {[][]api.Command{{wrong}}, ""}, {[][]api.Command{{wrong, right, wrong, other, wrong}}, "new-session -s 'a b' ; send-keys -- -x\n"}, {[][]api.Command{{wrong, wrong}, {}, {other, other, other}, {wrong}, {right}}, "send-keys -- -x ; send-keys -- -x ; send-keys -- -x\nnew-session -s 'a b'\n"},
	} {
		if got := Print(List{c.groups}); got != c.want {
			t.Errorf("%d: %q, must be %q", i, got, c.want)
		}
	}
}

func TestHasAndValue(t *testing.T) {
	c := made("anything", flagged("zlast", "a", "bfirst", "bsecond", ":x", "\x00nought", "e", "efull"), "q")
	for letter, want := range map[byte]string{'z': "last", 'a': "", 'b': "first", ':': "x", 0: "nought", 'e': ""} {
		if v, has := Value(c, letter); !has || v != want || !Has(c, letter) {
			t.Errorf("%q: %q %v %v", letter, v, has, Has(c, letter))
		}
	}
	for b := range 256 {
		letter := byte(b)
		if want := strings.IndexByte("zab:\x00e", letter) >= 0; Has(c, letter) != want {
			t.Errorf("%q: %v", letter, !want)
		}
		if v, has := Value(c, letter); has != Has(c, letter) || !has && v != "" {
			t.Errorf("%q: %q %v", letter, v, has)
		}
		if v, has := Value(api.Command{}, letter); v != "" || has || Has(api.Command{}, letter) {
			t.Errorf("%q is a flag of nothing", letter)
		}
	}
	words, _ := Words(some("splitw", "-hl", "20", "-t", ""))
	if v, has := Value(words, 'l'); !has || v != "20" {
		t.Error(v, has)
	}
	if v, has := Value(words, 't'); !has || v != "" {
		t.Error(v, has)
	}
	if v, has := Value(words, 'h'); !has || v != "" || !Has(words, 'h') || Has(words, 'v') {
		t.Error(v, has)
	}
}
