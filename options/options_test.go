package options

import (
	"fmt"
	"math"
	"regexp"
	"slices"
	"strconv"
	"strings"
	"testing"

	"mullion/api"
	"mullion/quote"
)

// chapter is the chapter's table: name, scope, kind, first value, and what goes with the kind.
const chapter = `
buffer-limit | server | number | 20 | 1 to 20
command-alias | server | array | |
default-terminal | server | string | screen |
escape-time | server | number | 500 | 0 to 10000
exit-empty | server | flag | on |
exit-unattached | server | flag | off |
focus-events | server | flag | off |
message-limit | server | number | 100 | 0 to 1000
set-clipboard | server | choice | external | off, external, on
user-keys | server | array | |
base-index | session | number | 0 | 0 to 9999
default-command | session | string | |
default-shell | session | string | /bin/sh |
destroy-unattached | session | flag | off |
detach-on-destroy | session | flag | on |
display-time | session | number | 750 | 0 to 100000
history-limit | session | number | 2000 | 0 to 2000
key-table | session | string | root |
message-style | session | style | fg=black,bg=yellow |
mouse | session | flag | off |
prefix | session | string | C-b |
prefix2 | session | string | None |
renumber-windows | session | flag | off |
repeat-time | session | number | 500 | 0 to 10000
set-titles | session | flag | off |
set-titles-string | session | string | #S:#I:#W |
status | session | flag | on |
status-interval | session | number | 15 | 0 to 3600
status-justify | session | choice | left | left, centre, right
status-keys | session | choice | emacs | emacs, vi
status-left | session | string | "[#S] " |
status-left-length | session | number | 10 | 0 to 250
status-position | session | choice | bottom | top, bottom
status-right | session | string | " #T" |
status-right-length | session | number | 40 | 0 to 250
status-style | session | style | fg=black,bg=green |
update-environment | session | array | DISPLAY,SSH_AGENT_PID |
word-separators | session | string | " -_@" |
aggressive-resize | window | flag | off |
allow-rename | window | flag | on |
automatic-rename | window | flag | off |
main-pane-height | window | number | 24 | 1 to 120
main-pane-width | window | number | 80 | 1 to 250
mode-keys | window | choice | emacs | emacs, vi
mode-style | window | style | fg=black,bg=yellow |
monitor-activity | window | flag | off |
monitor-bell | window | flag | on |
pane-active-border-style | window | style | fg=green |
pane-base-index | window | number | 0 | 0 to 9999
pane-border-style | window | style | default |
synchronize-panes | window | flag | off |
window-status-current-format | window | string | #I:#W#F |
window-status-current-style | window | style | default |
window-status-format | window | string | #I:#W#F |
window-status-separator | window | string | " " |
window-status-style | window | style | default |
wrap-search | window | flag | on |
allow-passthrough | pane | choice | off | off, on, all
alternate-screen | pane | flag | on |
cursor-colour | pane | colour | default |
remain-on-exit | pane | flag | off |
window-active-style | pane | style | default |
window-style | pane | style | default |
`

// row is one of the chapter's table.
type row struct {
	name, kind, first, goes string
	scope                   int
}

// rows is that table.
var rows = func() []row {
	var l []row
	for _, line := range strings.Split(strings.TrimSpace(chapter), "\n") {
		p := strings.Split(line, "|")
		for i := range p {
			p[i] = strings.TrimSpace(p[i])
		}
		scope := 1 + slices.Index([]string{"server", "session", "window", "pane"}, p[1])
		l = append(l, row{p[0], p[2], strings.Trim(p[3], `"`), p[4], scope})
	}
	return l
}()

// bounds is what a number must lie between.
func (r row) bounds() (int, int) {
	var least, most int
	fmt.Sscanf(r.goes, "%d to %d", &least, &most)
	return least, most
}

// wrongNames are no option's, no user option's, no item's.
var wrongNames = []string{
	"", " ", "@", "@ ", "@a b", "@a.b", "@ä", "@a[0]", "@@a", "@a\n", "@\x80", "@" + strings.Repeat("x", 64), "x@", "a",
	"stat", "Status", "STATUS", " status", "status ", "status\n", "status\x00", "status[0]", "status-", "mouse[1]", "prefix3",
	"user-keys[", "user-keys[]", "user-keys]", "user-keys[1", "user-keys1]", "user-keys[1]]", "user-keys[[1]", "user-keys[1][2]", "user-keys [1]", "user-keys[1] ",
	"user-keys[1000]", "user-keys[00]", "user-keys[01]", "user-keys[-1]", "user-keys[-0]", "user-keys[+1]", "user-keys[ 1]", "user-keys[1 ]", "user-keys[x]", "user-keys[0x1]", "user-keys[1_0]",
	"user-keys[18446744073709551616]", "user-keys[9223372036854775807]", "user-keys[4294967296]", "user-keys[٣]", "user[1]", "[1]", "[", "]", "[]",
	"user-keys,status", strings.Repeat("x", 70000), strings.Repeat("[", 70000), "\xff\xfe",
}

// userNames are user options'.
var userNames = []string{"@a", "@A", "@9", "@-", "@_", "@status", "@aZ09-_", "@" + strings.Repeat("x", 63)}

// fresh is a set of a scope over nothing.
func fresh(t *testing.T, scope int) *Set {
	t.Helper()
	s, e := New(scope, nil)
	if e != api.OK || s == nil {
		t.Fatalf("New(%d, nil): %v", scope, e)
	}
	return s
}

// over is a set of a scope over another one.
func over(t *testing.T, scope int, parent *Set) *Set {
	t.Helper()
	s, e := New(scope, parent)
	if e != api.OK || s == nil {
		t.Fatalf("New(%d, ..): %v", scope, e)
	}
	return s
}

// set sets what may be set.
func set(t *testing.T, s *Set, name, value string) {
	t.Helper()
	if e := s.Set(name, value); e != api.OK {
		t.Fatalf("Set %s to %.40q: error %d", name, value, e)
	}
}

// is tells whether Get tells so.
func is(t *testing.T, s *Set, name, want string) {
	t.Helper()
	if v, e := s.Get(name); e != api.OK || v != want {
		t.Errorf("Get %.40s: %.80q and error %d, must be %.80q", name, v, e, want)
	}
}

// isNone tells whether Get tells that there is none.
func isNone(t *testing.T, s *Set, name string) {
	t.Helper()
	if v, e := s.Get(name); e != api.ErrNone || v != "" {
		t.Errorf("Get %.40s: %.80q and error %d, must be ErrNone", name, v, e)
	}
}

// refused tells whether a call tells that error, and leaves the set as it was.
func refused(t *testing.T, s *Set, what string, want api.Errno, call func() api.Errno) {
	t.Helper()
	was := s.Print("")
	if e := call(); e != want {
		t.Errorf("%.80s: error %d, must be %d", what, e, want)
	}
	if now := s.Print(""); now != was {
		t.Errorf("%.80s: error %d changes %.200q to %.200q", what, want, was, now)
	}
}

// filled gives a set user options, so many.
func filled(t *testing.T, s *Set, n int) {
	t.Helper()
	for i := range n {
		set(t, s, fmt.Sprintf("@fill%d", i), "")
	}
}

func TestExamples(t *testing.T) {
	server := fresh(t, Server)
	s := over(t, Session, server)
	is(t, s, "status", "on")
	set(t, s, "status", "no")
	is(t, s, "status", "off")
	set(t, s, "status", "")
	is(t, s, "status", "on")
	set(t, s, "base-index", "007")
	is(t, s, "base-index", "7")
	refused(t, s, "below 0", api.ErrType, func() api.Errno { return s.Set("base-index", "-1") })
	refused(t, s, "no whole name", api.ErrName, func() api.Errno { return s.Set("stat", "on") })
	set(t, s, "mode-keys", "vi")

	w := over(t, Window, s)
	refused(t, w, "a session's option", api.ErrNone, func() api.Errno { return w.Set("status", "on") })
	set(t, w, "@x", "1")
	if e := w.Append("@x", "2"); e != api.OK {
		t.Error(e)
	}
	is(t, w, "@x", "12")
	isNone(t, w, "@y")

	set(t, server, "user-keys", "a,b")
	set(t, server, "user-keys[5]", "c,d")
	is(t, server, "user-keys", "a,b,c,d")
	is(t, server, "user-keys[5]", "c,d")
	if e := server.Append("user-keys", "e"); e != api.OK {
		t.Error(e)
	}
	is(t, server, "user-keys[6]", "e")
	isNone(t, server, "user-keys[2]")
}

// O8.1

func TestNew(t *testing.T) {
	for _, scope := range []int{math.MinInt, -1 << 32, -1, 0, 5, 6, 1 << 32, 1<<32 + 1, math.MaxInt} {
		for _, parent := range []*Set{nil, fresh(t, Server), fresh(t, Pane)} {
			if s, e := New(scope, parent); s != nil || e != api.ErrArg {
				t.Errorf("New(%d, %v): %v, error %d", scope, parent, s, e)
			}
		}
	}
	for scope := Server; scope <= Pane; scope++ {
		for above := Server; above <= Pane; above++ {
			s, e := New(scope, fresh(t, above))
			if want := above <= scope; want != (s != nil) || want != (e == api.OK) || !want && e != api.ErrArg {
				t.Errorf("New(%d, over %d): %v, error %d", scope, above, s, e)
			}
		}
		s := fresh(t, scope)
		if n := s.Names(); len(n) != 0 || s.Print("-g") != "" {
			t.Errorf("a new set has %v", n)
		}
	}
}

func TestNewHasNothingOfItsParent(t *testing.T) {
	parent := fresh(t, Server)
	set(t, parent, "user-keys", "a,b")
	set(t, parent, "@x", "1")
	s := over(t, Server, parent)
	if s.Has("user-keys") || s.Has("user-keys[0]") || s.Has("@x") || len(s.Names()) != 0 || s.Print("") != "" {
		t.Error("the parent's values are its own")
	}
	is(t, s, "user-keys", "a,b")
	is(t, s, "@x", "1")
}

// O8.2

func TestSetOfWrongNames(t *testing.T) {
	for scope := Server; scope <= Pane; scope++ {
		s := fresh(t, scope)
		for _, name := range wrongNames {
			for _, value := range []string{"", "on", "1", strings.Repeat("x", 1025)} {
				refused(t, s, "Set "+name, api.ErrName, func() api.Errno { return s.Set(name, value) })
				refused(t, s, "Append "+name, api.ErrName, func() api.Errno { return s.Append(name, value) })
			}
			refused(t, s, "Unset "+name, api.ErrName, func() api.Errno { return s.Unset(name) })
			if v, e := s.Get(name); v != "" || e != api.ErrName {
				t.Errorf("Get %.40q: %q, error %d", name, v, e)
			}
			if n, e := s.Number(name); n != 0 || e != api.ErrName {
				t.Errorf("Number %.40q: %d, error %d", name, n, e)
			}
			if f, e := s.Flag(name); f || e != api.ErrName {
				t.Errorf("Flag %.40q: %v, error %d", name, f, e)
			}
			if s.Has(name) {
				t.Errorf("Has %.40q", name)
			}
		}
	}
}

func TestSetOfUserNames(t *testing.T) {
	for scope := Server; scope <= Pane; scope++ {
		s := fresh(t, scope)
		for i, name := range userNames {
			isNone(t, s, name)
			value := fmt.Sprint("any, ", i)
			set(t, s, name, value)
			is(t, s, name, value)
			set(t, s, name, "")
			is(t, s, name, "")
		}
	}
}

func TestScopes(t *testing.T) {
	for _, r := range rows {
		for scope := Server; scope <= Pane; scope++ {
			s := over(t, scope, fresh(t, Server))
			for _, name := range []string{r.name, r.name + "[7]"} {
				if name != r.name && r.kind != "array" {
					continue
				}
				if r.scope >= scope {
					set(t, s, name, r.first)
					s.Unset(r.name)
					continue
				}
				for _, value := range []string{r.first, "", "oops", strings.Repeat("x", 1025)} {
					refused(t, s, "Set "+name, api.ErrNone, func() api.Errno { return s.Set(name, value) })
					refused(t, s, "Append "+name, api.ErrNone, func() api.Errno { return s.Append(name, value) })
				}
				if e := s.Unset(name); e != api.OK {
					t.Errorf("Unset %s: error %d", name, e)
				}
			}
			is(t, s, r.name, r.first)
		}
	}
}

func TestSetOfLong(t *testing.T) {
	for _, r := range rows {
		s := fresh(t, Server)
		long, longer := strings.Repeat("1", 1024), strings.Repeat("1", 1025)
		want := api.OK
		if !slices.Contains([]string{"string", "array"}, r.kind) {
			want = api.ErrType
		}
		if e := s.Set(r.name, long); e != want {
			t.Errorf("Set %s to 1024 bytes: error %d", r.name, e)
		}
		refused(t, s, "Set "+r.name, api.ErrLong, func() api.Errno { return s.Set(r.name, longer) })
		refused(t, s, "Append "+r.name, api.ErrLong, func() api.Errno { return s.Append(r.name, longer) })
	}
	s := fresh(t, Server)
	for _, name := range []string{"@x", "user-keys[3]"} {
		set(t, s, name, strings.Repeat(",", 1024))
		is(t, s, name, strings.Repeat(",", 1024))
		refused(t, s, "Set "+name, api.ErrLong, func() api.Errno { return s.Set(name, strings.Repeat("é", 513)) })
	}
}

func TestSetOfArrays(t *testing.T) {
	for value, items := range map[string][]string{
		"":            {},
		"a":           {"a"},
		"a,b":         {"a", "b"},
		",":           {"", ""},
		"a,,b,":       {"a", "", "b", ""},
		" a , b ":     {" a ", " b "},
		"a;b\n'c',\"": {"a;b\n'c'", "\""},
		"\xff,é":      {"\xff", "é"},
	} {
		s := fresh(t, Server)
		set(t, s, "user-keys", "1,2,3,4,5,6")
		set(t, s, "user-keys[999]", "x")
		set(t, s, "user-keys", value)
		is(t, s, "user-keys", value)
		for i, item := range items {
			is(t, s, fmt.Sprintf("user-keys[%d]", i), item)
		}
		isNone(t, s, fmt.Sprintf("user-keys[%d]", len(items)))
		isNone(t, s, "user-keys[999]")
		if l := s.Names(); !slices.Equal(l, []string{"user-keys"}) {
			t.Errorf("%q: names %q", value, l)
		}
	}
}

func TestSetOfManyPieces(t *testing.T) {
	s := fresh(t, Server)
	set(t, s, "user-keys", strings.Repeat(",", 498))
	was := s.Print("")
	for commas, want := range map[int]api.Errno{499: api.ErrMany, 999: api.ErrMany, 1000: api.ErrType, 1024: api.ErrType, 1025: api.ErrLong} {
		if e := s.Set("user-keys", strings.Repeat(",", commas)); e != want {
			t.Errorf("%d commas: error %d, must be %d", commas, e, want)
		}
	}
	if s.Print("") != was {
		t.Error("an error changes the array")
	}
}

func TestSetOfItems(t *testing.T) {
	s := over(t, Session, fresh(t, Server))
	set(t, s, "update-environment[2]", "a,b")
	is(t, s, "update-environment", "a,b")
	set(t, s, "update-environment[0]", "")
	is(t, s, "update-environment", ",a,b")
	set(t, s, "update-environment[999]", "z")
	set(t, s, "update-environment[1]", "y")
	is(t, s, "update-environment", ",y,a,b,z")
	set(t, s, "update-environment[2]", "c")
	is(t, s, "update-environment", ",y,c,z")
	set(t, s, "update-environment[10]", "ten")
	set(t, s, "update-environment[9]", "nine")
	is(t, s, "update-environment", ",y,c,nine,ten,z")
	for i := range 1000 {
		name := fmt.Sprintf("update-environment[%d]", i)
		want := slices.Contains([]int{0, 1, 2, 9, 10, 999}, i)
		if _, e := s.Get(name); s.Has(name) != want || (e == api.OK) != want {
			t.Errorf("%s: Has is %v, Get tells error %d", name, s.Has(name), e)
		}
	}
}

func TestItemsStartFromTheSetsOwnArray(t *testing.T) {
	server := fresh(t, Server)
	set(t, server, "update-environment", "a,b,c")
	s := over(t, Session, server)
	set(t, s, "update-environment[1]", "x")
	is(t, s, "update-environment", "x")
	isNone(t, s, "update-environment[0]")
	isNone(t, s, "update-environment[2]")
	is(t, server, "update-environment", "a,b,c")
}

func TestFlags(t *testing.T) {
	for _, r := range rows {
		if r.kind != "flag" {
			continue
		}
		s := fresh(t, Server)
		for _, c := range []struct{ value, want string }{{"yes", "on"}, {"no", "off"}, {"1", "on"}, {"0", "off"}, {"on", "on"}, {"off", "off"}, {"", "on"}, {"", "off"}, {"on", "on"}, {"", "off"}} {
			set(t, s, r.name, c.value)
			is(t, s, r.name, c.want)
			if f, e := s.Flag(r.name); f != (c.want == "on") || e != api.OK {
				t.Errorf("Flag %s: %v, error %d", r.name, f, e)
			}
		}
		for _, value := range []string{"ON", "Yes", "true", "2", "00", "01", " on", "on ", "o", "y", "n", "onoff", "on,off", "\x00"} {
			refused(t, s, "Set "+r.name+" "+value, api.ErrType, func() api.Errno { return s.Set(r.name, value) })
		}
	}
}

func TestFlagsTurn(t *testing.T) {
	for _, r := range rows {
		if r.kind != "flag" {
			continue
		}
		turned := map[string]string{"on": "off", "off": "on"}
		s := fresh(t, Server)
		set(t, s, r.name, "")
		is(t, s, r.name, turned[r.first])

		parent := fresh(t, Server)
		set(t, parent, r.name, turned[r.first])
		s = over(t, Server, over(t, Server, parent))
		set(t, s, r.name, "")
		is(t, s, r.name, r.first)
		is(t, parent, r.name, turned[r.first])
	}
}

func TestNumbers(t *testing.T) {
	for _, r := range rows {
		if r.kind != "number" {
			continue
		}
		s := fresh(t, Server)
		least, most := r.bounds()
		for _, n := range []int{least, least + 1, most - 1, most, (least + most) / 2} {
			for _, value := range []string{strconv.Itoa(n), fmt.Sprintf("%09d", n), fmt.Sprintf("0%d", n)} {
				set(t, s, r.name, value)
				is(t, s, r.name, strconv.Itoa(n))
				if got, e := s.Number(r.name); got != n || e != api.OK {
					t.Errorf("Number %s: %d, error %d", r.name, got, e)
				}
			}
		}
		for _, value := range []string{
			strconv.Itoa(least - 1), strconv.Itoa(most + 1), "-1", "-" + strconv.Itoa(most), "999999999", "-999999999", "0000000001", fmt.Sprintf("%010d", most), "1000000000", "4294967297", "18446744073709551617",
			"", "-", "--1", "+1", " 1", "1 ", "1.0", "1e1", "0x1", "1_0", "x", "1x", "x1", "1x1", "١", "1-", "1,1", "on", "\x00",
		} {
			refused(t, s, "Set "+r.name+" "+value, api.ErrType, func() api.Errno { return s.Set(r.name, value) })
		}
		for _, value := range []string{"-0", "-000000000"} {
			if e := s.Set(r.name, value); (e == api.OK) != (least == 0) || e != api.OK && e != api.ErrType {
				t.Errorf("Set %s to %s: error %d", r.name, value, e)
			} else if e == api.OK {
				is(t, s, r.name, "0")
			}
		}
		refused(t, s, "ten bytes of 0", api.ErrType, func() api.Errno { return s.Set(r.name, "-0000000000") })
	}
}

func TestChoices(t *testing.T) {
	for _, r := range rows {
		if r.kind != "choice" {
			continue
		}
		s := fresh(t, Server)
		for _, value := range strings.Split(r.goes, ", ") {
			set(t, s, r.name, value)
			is(t, s, r.name, value)
		}
		for _, value := range []string{"", "none", "yes", "1", ",", r.goes, strings.ReplaceAll(r.goes, " ", ""), r.first + ",", " " + r.first, r.first + " ", strings.ToUpper(r.first), r.first[1:], r.first[:len(r.first)-1], "external,on", "emacs,vi"} {
			refused(t, s, "Set "+r.name+" "+value, api.ErrType, func() api.Errno { return s.Set(r.name, value) })
		}
	}
}

func TestColours(t *testing.T) {
	s := fresh(t, Pane)
	for value, want := range map[string]string{"red": "red", "RED": "red", "BrightBlue": "brightblue", "colour1": "red", "color9": "brightred", "COLOR255": "colour255", "colour16": "colour16", "#00FFaa": "#00ffaa", "Default": "default"} {
		set(t, s, "cursor-colour", value)
		is(t, s, "cursor-colour", want)
	}
	for _, value := range []string{"", "redd", "re", "colour256", "colour01", "colour", "#fff", "#00ffag", "fg=red", "-1", "1", " red", "red,blue"} {
		refused(t, s, "Set cursor-colour "+value, api.ErrType, func() api.Errno { return s.Set("cursor-colour", value) })
	}
}

func TestStyles(t *testing.T) {
	for _, r := range rows {
		if r.kind != "style" {
			continue
		}
		s := fresh(t, Server)
		for _, value := range []string{"", "default", "fg=red", "FG=Red, nobold", " , ,", "fg=colour1,bg=#00FF00 none", strings.Repeat(" ", 256), strings.Repeat("bold,", 51)} {
			set(t, s, r.name, value)
			is(t, s, r.name, value)
		}
		for _, value := range []string{"oops", "red", "fg", "fg=", "fg=oops", "bold,oops", "fg=red;bold", "nodefault", strings.Repeat(" ", 257), strings.Repeat(" ", 1024)} {
			refused(t, s, "Set "+r.name+" "+value, api.ErrType, func() api.Errno { return s.Set(r.name, value) })
		}
	}
}

func TestStringsAreAnyBytes(t *testing.T) {
	for _, r := range rows {
		if r.kind != "string" {
			continue
		}
		s := fresh(t, Server)
		for _, value := range []string{"", " ", "on", "-1", "a,b", "'\"$\\", "\x00\xff\n", "日本"} {
			set(t, s, r.name, value)
			is(t, s, r.name, value)
		}
	}
}

func TestSetOfManyOptions(t *testing.T) {
	s := fresh(t, Server)
	filled(t, s, 500)
	for _, name := range []string{"@x", "status", "user-keys", "user-keys[0]"} {
		refused(t, s, "Set "+name, api.ErrMany, func() api.Errno { return s.Set(name, "on") })
	}
	refused(t, s, "Append", api.ErrMany, func() api.Errno { return s.Append("@x", "") })
	refused(t, s, "Append of a string", api.ErrMany, func() api.Errno { return s.Append("prefix", "") })
	refused(t, s, "Append of a style", api.ErrMany, func() api.Errno { return s.Append("mode-style", "bold") })
	refused(t, s, "Append of an array", api.ErrMany, func() api.Errno { return s.Append("user-keys", "") })
	refused(t, s, "Append of an item", api.ErrMany, func() api.Errno { return s.Append("user-keys[1]", "") })
	refused(t, s, "a wrong value", api.ErrType, func() api.Errno { return s.Set("status", "oops") })
	set(t, s, "@fill0", "again")
	if e := s.Append("@fill0", "!"); e != api.OK {
		t.Error(e)
	}
	is(t, s, "@fill0", "again!")
	s.Unset("@fill1")
	refused(t, s, "an array and an item", api.ErrMany, func() api.Errno { return s.Set("user-keys[0]", "") })
	refused(t, s, "an array and an item", api.ErrMany, func() api.Errno { return s.Set("user-keys", "a") })
	refused(t, s, "an array and an item", api.ErrMany, func() api.Errno { return s.Append("user-keys", "a") })
	set(t, s, "user-keys", "")
	refused(t, s, "one more", api.ErrMany, func() api.Errno { return s.Set("@x", "") })
}

func TestSetOfManyItems(t *testing.T) {
	s := fresh(t, Server)
	filled(t, s, 90)
	set(t, s, "user-keys", strings.Repeat(",", 299))     // 301 values
	set(t, s, "command-alias", strings.Repeat("x,", 99)) // 101 values
	refused(t, s, "8 more", api.ErrMany, func() api.Errno { return s.Set("update-environment", strings.Repeat(",", 7)) })
	set(t, s, "update-environment", strings.Repeat(",", 5)) // 7 values: 499 in all
	set(t, s, "user-keys[500]", "the 500th")
	refused(t, s, "one more", api.ErrMany, func() api.Errno { return s.Set("command-alias[500]", "") })
	refused(t, s, "one more", api.ErrMany, func() api.Errno { return s.Append("command-alias", "") })
	refused(t, s, "one more", api.ErrMany, func() api.Errno { return s.Append("user-keys[501]", "") })
	refused(t, s, "one more, between others", api.ErrMany, func() api.Errno { return s.Set("user-keys[400]", "x") })
	refused(t, s, "one more", api.ErrMany, func() api.Errno { return s.Set("user-keys", strings.Repeat(",", 301)) })
	set(t, s, "user-keys[500]", "another")
	if e := s.Append("user-keys[500]", "!"); e != api.OK {
		t.Error(e)
	}
	is(t, s, "user-keys[500]", "another!")
	set(t, s, "user-keys", strings.Repeat(",", 300)) // again 302 values
	refused(t, s, "one more", api.ErrMany, func() api.Errno { return s.Set("@x", "") })
	s.Unset("user-keys[7]")
	set(t, s, "@x", "")
	refused(t, s, "one more", api.ErrMany, func() api.Errno { return s.Set("@y", "") })
	s.Unset("user-keys")
	filled(t, s, 90+301)
	refused(t, s, "one more", api.ErrMany, func() api.Errno { return s.Set("@y", "") })
}

// What a parent has doesn't count.
func TestManyAreASetsOwn(t *testing.T) {
	server := fresh(t, Server)
	filled(t, server, 500)
	s := over(t, Server, server)
	filled(t, s, 500)
	refused(t, s, "one more", api.ErrMany, func() api.Errno { return s.Set("@x", "") })
}

// O8.3

func TestAppend(t *testing.T) {
	server := fresh(t, Server)
	set(t, server, "@of", "server")
	set(t, server, "prefix", "C-")
	s := over(t, Session, server)
	for _, c := range []struct{ name, value, want string }{
		{"@x", "", ""}, {"@x", "1", "1"}, {"@x", "", "1"}, {"@x", ", 2", "1, 2"},
		{"@of", "+", "server+"}, {"@of", "!", "server+!"},
		{"prefix", "x", "C-x"}, {"prefix", "y", "C-xy"},
		{"key-table", "2", "root2"}, {"default-command", "ls", "ls"}, {"status-left", "x", "[#S] x"},
		{"mode-style", "bold", "fg=black,bg=yellow,bold"}, {"mode-style", "", "fg=black,bg=yellow,bold"}, {"mode-style", ",noblink", "fg=black,bg=yellow,bold,,noblink"},
		{"status-style", "", "fg=black,bg=green"}, {"pane-border-style", "bold", "default,bold"},
	} {
		if e := s.Append(c.name, c.value); e != api.OK {
			t.Errorf("Append %s %q: error %d", c.name, c.value, e)
		}
		is(t, s, c.name, c.want)
		if !s.Has(c.name) {
			t.Errorf("Append %s %q: the set has it not", c.name, c.value)
		}
	}
	is(t, server, "@of", "server")
	is(t, server, "prefix", "C-")
	set(t, s, "window-style", "")
	if e := s.Append("window-style", "dim"); e != api.OK {
		t.Error(e)
	}
	is(t, s, "window-style", "dim")
}

func TestAppendOfKinds(t *testing.T) {
	for _, r := range rows {
		s := fresh(t, Server)
		for _, value := range []string{"", "1", "on", "oops", r.first} {
			switch r.kind {
			case "string", "array":
				if e := s.Append(r.name, value); e != api.OK {
					t.Errorf("Append %s %q: error %d", r.name, value, e)
				}
			case "style":
				if want := value == "" || value == r.first; (s.Append(r.name, value) == api.OK) != want {
					t.Errorf("Append %s %q", r.name, value)
				}
			default:
				refused(t, s, "Append "+r.name, api.ErrType, func() api.Errno { return s.Append(r.name, value) })
			}
		}
	}
}

func TestAppendOfLong(t *testing.T) {
	s := fresh(t, Server)
	kilo := strings.Repeat("k", 1023)
	for _, name := range []string{"@x", "prefix", "user-keys[3]"} {
		set(t, s, name, kilo)
		if e := s.Append(name, "1"); e != api.OK {
			t.Errorf("Append %s: error %d", name, e)
		}
		is(t, s, name, kilo+"1")
		refused(t, s, "Append "+name, api.ErrLong, func() api.Errno { return s.Append(name, "2") })
		if e := s.Append(name, ""); e != api.OK {
			t.Errorf("Append %s nothing: error %d", name, e)
		}
		refused(t, s, "Append "+name, api.ErrLong, func() api.Errno { return s.Append(name, kilo) })
	}
	set(t, s, "mode-style", strings.Repeat(" ", 250))
	if e := s.Append("mode-style", "fg=1,"); e != api.ErrType {
		t.Errorf("no style: error %d", e)
	}
	if e := s.Append("mode-style", " bold"); e != api.OK {
		t.Errorf("256 bytes: error %d", e)
	}
	refused(t, s, "258 bytes", api.ErrType, func() api.Errno { return s.Append("mode-style", " ") })
	refused(t, s, "1024 bytes", api.ErrType, func() api.Errno { return s.Append("mode-style", strings.Repeat(" ", 1024-257)) })
	refused(t, s, "1025 bytes", api.ErrLong, func() api.Errno { return s.Append("mode-style", strings.Repeat(" ", 1025-257)) })
	refused(t, s, "no style, and too long", api.ErrLong, func() api.Errno { return s.Append("mode-style", strings.Repeat("x", 1024)) })
	refused(t, s, "a number, too long", api.ErrLong, func() api.Errno { return s.Append("base-index", strings.Repeat("x", 1025)) })
}

func TestAppendOfArrays(t *testing.T) {
	server := fresh(t, Server)
	set(t, server, "update-environment", "a,b,c")
	s := over(t, Session, server)
	for _, value := range []string{"x,y", "", "z"} {
		if e := s.Append("update-environment", value); e != api.OK {
			t.Error(e)
		}
	}
	is(t, s, "update-environment[0]", "x,y")
	is(t, s, "update-environment[1]", "")
	is(t, s, "update-environment[2]", "z")
	is(t, s, "update-environment", "x,y,,z")
	set(t, s, "update-environment[10]", "ten")
	s.Append("update-environment", "eleven")
	is(t, s, "update-environment[11]", "eleven")
	s.Unset("update-environment[11]")
	s.Append("update-environment", "again")
	is(t, s, "update-environment[11]", "again")
	set(t, s, "update-environment[998]", "")
	if e := s.Append("update-environment", strings.Repeat(",", 1024)); e != api.OK {
		t.Error(e)
	}
	is(t, s, "update-environment[999]", strings.Repeat(",", 1024))
	refused(t, s, "behind 999", api.ErrMany, func() api.Errno { return s.Append("update-environment", "") })
	refused(t, s, "behind 999, too long", api.ErrLong, func() api.Errno { return s.Append("update-environment", strings.Repeat("x", 1025)) })
	set(t, s, "update-environment", "")
	s.Append("update-environment", "first")
	is(t, s, "update-environment[0]", "first")
	is(t, server, "update-environment", "a,b,c")
}

func TestAppendOfItems(t *testing.T) {
	server := fresh(t, Server)
	set(t, server, "update-environment", "a,b,c")
	s := over(t, Session, server)
	for _, c := range []struct{ name, value, want string }{
		{"update-environment[1]", "x", "x"}, {"update-environment[1]", ",y", "x,y"}, {"update-environment[0]", "", ""}, {"update-environment[999]", "z", "z"}, {"update-environment[999]", "z", "zz"},
	} {
		if e := s.Append(c.name, c.value); e != api.OK {
			t.Errorf("Append %s %q: error %d", c.name, c.value, e)
		}
		is(t, s, c.name, c.want)
	}
	is(t, s, "update-environment", ",x,y,zz")
	is(t, server, "update-environment", "a,b,c")
}

// O8.4

func TestFirstValues(t *testing.T) {
	for _, r := range rows {
		for scope := Server; scope <= Pane; scope++ {
			is(t, over(t, scope, fresh(t, Server)), r.name, r.first)
		}
	}
	s := fresh(t, Pane)
	is(t, s, "update-environment[0]", "DISPLAY")
	is(t, s, "update-environment[1]", "SSH_AGENT_PID")
	isNone(t, s, "update-environment[2]")
	isNone(t, s, "user-keys[0]")
	isNone(t, s, "command-alias[999]")
}

func TestGetOfParents(t *testing.T) {
	server := fresh(t, Server)
	session := over(t, Session, server)
	window := over(t, Window, session)
	pane := over(t, Pane, window)
	set(t, server, "@x", "server")
	is(t, pane, "@x", "server")
	set(t, window, "@x", "window")
	is(t, pane, "@x", "window")
	is(t, session, "@x", "server")
	set(t, pane, "@x", "")
	is(t, pane, "@x", "")
	set(t, session, "status", "off")
	is(t, pane, "status", "off")
	is(t, server, "status", "on")
	for _, s := range []*Set{pane, window, server} {
		if e := s.Unset("@x"); e != api.OK {
			t.Error(e)
		}
	}
	isNone(t, pane, "@x")
	if e := pane.Unset("status"); e != api.OK {
		t.Error(e)
	}
	is(t, pane, "status", "off")
	if e := session.Unset("status"); e != api.OK || session.Has("status") {
		t.Error(e)
	}
	is(t, pane, "status", "on")
}

func TestUnset(t *testing.T) {
	s := fresh(t, Server)
	for _, name := range []string{"@x", "status", "user-keys", "user-keys[3]"} {
		if e := s.Unset(name); e != api.OK || len(s.Names()) != 0 {
			t.Errorf("Unset %s: error %d, then %v", name, e, s.Names())
		}
	}
	set(t, s, "user-keys", "a,b,c")
	for _, c := range []struct{ name, want string }{{"user-keys[1]", "a,c"}, {"user-keys[1]", "a,c"}, {"user-keys[7]", "a,c"}, {"user-keys[2]", "a"}, {"user-keys[0]", ""}} {
		if e := s.Unset(c.name); e != api.OK || s.Has(c.name) {
			t.Errorf("Unset %s: error %d", c.name, e)
		}
		is(t, s, "user-keys", c.want)
		isNone(t, s, c.name)
		if !s.Has("user-keys") {
			t.Errorf("Unset %s takes the whole array", c.name)
		}
	}
	set(t, s, "user-keys", "a,b")
	if e := s.Unset("user-keys"); e != api.OK || s.Has("user-keys") || s.Has("user-keys[0]") {
		t.Error(e)
	}
	isNone(t, s, "user-keys[0]")
}

// An array without items hides what a parent has.
func TestArraysHideWhole(t *testing.T) {
	server := fresh(t, Server)
	set(t, server, "update-environment", "a,b,c")
	s := over(t, Session, server)
	is(t, s, "update-environment[2]", "c")
	isNone(t, s, "update-environment[3]")
	set(t, s, "update-environment", "x")
	is(t, s, "update-environment", "x")
	is(t, s, "update-environment[0]", "x")
	isNone(t, s, "update-environment[2]")
	s.Unset("update-environment[0]")
	is(t, s, "update-environment", "")
	isNone(t, s, "update-environment[0]")
	s.Unset("update-environment")
	is(t, s, "update-environment", "a,b,c")
	set(t, server, "update-environment", "")
	is(t, s, "update-environment", "")
	isNone(t, s, "update-environment[0]")
}

func TestHas(t *testing.T) {
	server := fresh(t, Server)
	for _, r := range rows {
		set(t, server, r.name, r.first)
	}
	set(t, server, "@x", "")
	s := over(t, Session, server)
	for _, r := range rows {
		if !server.Has(r.name) || s.Has(r.name) || server.Has(r.name+"[0]") != (r.first == "DISPLAY,SSH_AGENT_PID") || s.Has(r.name+"[0]") {
			t.Errorf("Has %s", r.name)
		}
	}
	if !server.Has("@x") || s.Has("@x") || server.Has("@y") || server.Has("@x[0]") {
		t.Error("Has @x")
	}
}

// O8.5

func TestNumberAndFlag(t *testing.T) {
	s := over(t, Session, fresh(t, Server))
	set(t, s, "@x", "1")
	for _, r := range append(slices.Clone(rows), row{name: "@x", kind: "string"}, row{name: "update-environment[1]", kind: "array"}) {
		n, e := s.Number(r.name)
		want, _ := strconv.Atoi(r.first)
		if r.kind == "number" && (n != want || e != api.OK) || r.kind != "number" && (n != 0 || e != api.ErrType) {
			t.Errorf("Number %s: %d, error %d", r.name, n, e)
		}
		f, e := s.Flag(r.name)
		if r.kind == "flag" && (f != (r.first == "on") || e != api.OK) || r.kind != "flag" && (f || e != api.ErrType) {
			t.Errorf("Flag %s: %v, error %d", r.name, f, e)
		}
	}
	for _, name := range []string{"@y", "update-environment[2]", "user-keys[0]"} {
		if n, e := s.Number(name); n != 0 || e != api.ErrNone {
			t.Errorf("Number %s: %d, error %d", name, n, e)
		}
		if f, e := s.Flag(name); f || e != api.ErrNone {
			t.Errorf("Flag %s: %v, error %d", name, f, e)
		}
	}
}

func TestNumberAndFlagOfParents(t *testing.T) {
	server := fresh(t, Server)
	s := over(t, Pane, server)
	set(t, server, "base-index", "0042")
	set(t, server, "mouse", "yes")
	if n, e := s.Number("base-index"); n != 42 || e != api.OK {
		t.Error(n, e)
	}
	if f, e := s.Flag("mouse"); !f || e != api.OK {
		t.Error(f, e)
	}
}

// O8.6

func TestPrint(t *testing.T) {
	s := fresh(t, Server)
	set(t, s, "user-keys[10]", "it's $1")
	set(t, s, "user-keys[9]", "")
	set(t, s, "user-keys[0]", "a b")
	set(t, s, "status", "1")
	set(t, s, "@Z", "x")
	set(t, s, "@-", "\"\\$")
	set(t, s, "prefix", "")
	set(t, s, "prefix2", "a\nb")
	set(t, s, "cursor-colour", "colour1")
	set(t, s, "mode-style", "fg=red,bold")
	set(t, s, "command-alias", "")
	names := []string{"@-", "@Z", "command-alias", "cursor-colour", "mode-style", "prefix", "prefix2", "status", "user-keys"}
	if l := s.Names(); !slices.Equal(l, names) {
		t.Errorf("names %q, must be %q", l, names)
	}
	for flags, ahead := range map[string]string{"": "set-option ", "-g": "set-option -g ", "-g -w": "set-option -g -w ", " ": "set-option   "} {
		want := ahead + "@- '\"\\$'\n" +
			ahead + "@Z x\n" +
			ahead + "command-alias ''\n" +
			ahead + "cursor-colour red\n" +
			ahead + "mode-style fg=red,bold\n" +
			ahead + "prefix ''\n" +
			ahead + "prefix2 'a\nb'\n" +
			ahead + "status on\n" +
			ahead + "user-keys ''\n" +
			ahead + "'user-keys[0]' 'a b'\n" +
			ahead + "'user-keys[9]' ''\n" +
			ahead + "'user-keys[10]' \"it's \\$1\"\n"
		if got := s.Print(flags); got != want {
			t.Errorf("%q: %s, must be %s", flags, got, want)
		}
	}
}

func TestNamesAreNew(t *testing.T) {
	s := fresh(t, Server)
	filled(t, s, 3)
	l := s.Names()
	l[0], l[1] = "@a", "@b"
	if l = s.Names(); !slices.Equal(l, []string{"@fill0", "@fill1", "@fill2"}) {
		t.Error(l)
	}
}

// O8.7

func TestKnown(t *testing.T) {
	for s, want := range map[string]string{
		"hist": "history-limit number", "status-l": "error 3", "@x": "@x string", "user-keys[3]": "user-keys[3] array", "zz": "error 6",
		"status": "status flag", "status-left": "status-left string", "status-left-": "status-left-length number", "prefix": "prefix string", "prefi": "error 3", "prefix2": "prefix2 string",
		"s": "error 3", "b": "error 3", "bu": "buffer-limit number", "cu": "cursor-colour colour", "mo": "error 3", "mode-s": "mode-style style", "r": "error 3", "rem": "remain-on-exit flag",
		"set-t": "error 3", "set-titles": "set-titles flag", "set-titles-": "set-titles-string string", "wrap": "wrap-search flag", "up": "update-environment array", "us": "user-keys array", "u": "error 3",
		"user[3]": "user-keys[3] array", "user-keys[0]": "user-keys[0] array", "us[999]": "user-keys[999] array", "com[12]": "command-alias[12] array", "up[1]": "update-environment[1] array",
		"u[3]": "error 3", "c[0]": "error 3", "[3]": "error 3", "d[0]": "error 3", "status[3]": "error 3", "prefix[3]": "error 3",
		"hist[3]": "error 6", "mouse[3]": "error 6", "wrap[0]": "error 6", "zz[3]": "error 6", "@x[3]": "error 6",
		"user[03]": "error 6", "user[1000]": "error 6", "user[]": "error 6", "user[": "error 6", "user[3": "error 6", "user[3]x": "error 6", "user[-1]": "error 6", "user[1][2]": "error 6", "user-keys[x]": "error 6", "user-keys[1000]": "error 6", "user-keys]": "error 6",
		"": "error 6", " ": "error 6", "@": "error 6", "@ ": "error 6", "Status": "error 6", "HIST": "error 6", "hist ": "error 6", "history-limits": "error 6", "\x00": "error 6", "status-left-length-": "error 6",
		"@" + strings.Repeat("x", 64): "error 6", strings.Repeat("user-keys", 9999): "error 6",
	} {
		name, kind, e := Known(s)
		got := name + " " + kind
		if e != api.OK {
			got = fmt.Sprintf("error %d", e)
			if name != "" || kind != "" {
				t.Errorf("Known %.40q: %q, %q beside error %d", s, name, kind, e)
			}
		}
		if got != want {
			t.Errorf("Known %.40q: %s, must be %s", s, got, want)
		}
	}
}

// Each beginning of each name, with and without an item's number.
func TestKnownOfBeginnings(t *testing.T) {
	item := regexp.MustCompile(`^([a-z0-9-]*)\[[0-9]\]$`)
	for _, r := range rows {
		for i := 1; i <= len(r.name); i++ {
			for _, s := range []string{r.name[:i], r.name[:i] + "[7]"} {
				ahead, array := s, false
				if p := item.FindStringSubmatch(s); p != nil {
					ahead, array = p[1], true
				}
				var found []row
				for _, o := range rows {
					if strings.HasPrefix(o.name, ahead) {
						found = append(found, o)
					}
					if o.name == ahead && (!array || o.kind == "array") {
						found = []row{o}
						break
					}
				}
				wantName, wantKind, want := "", "", api.OK
				switch {
				case len(found) > 1:
					want = api.ErrMany
				case array && found[0].kind != "array":
					want = api.ErrName
				default:
					wantName, wantKind = found[0].name+s[len(ahead):], found[0].kind
				}
				if name, kind, e := Known(s); name != wantName || kind != wantKind || e != want {
					t.Errorf("Known %s: %q, %q, error %d, must be %q, %q, error %d", s, name, kind, e, wantName, wantKind, want)
				}
			}
		}
	}
}

func TestKnownOfUserNames(t *testing.T) {
	for _, s := range userNames {
		if name, kind, e := Known(s); name != s || kind != "string" || e != api.OK {
			t.Errorf("Known %s: %q, %q, error %d", s, name, kind, e)
		}
	}
}

// O8.8

func TestEnv(t *testing.T) {
	outer := NewEnv(nil)
	e := NewEnv(outer)
	if v, has := e.Get("A"); v != "" || has || len(e.Names()) != 0 {
		t.Error("a new environment has something")
	}
	for _, pair := range []api.Pair{{Name: "B", Value: "b"}, {Name: "A", Value: ""}, {Name: "_", Value: "_"}, {Name: "a", Value: "\xff\x00"}} {
		if errno := outer.Set(pair.Name, pair.Value); errno != api.OK {
			t.Error(errno)
		}
		for _, x := range []*Env{outer, e} {
			if v, has := x.Get(pair.Name); v != pair.Value || !has {
				t.Errorf("%s: %q, %v", pair.Name, v, has)
			}
		}
	}
	e.Set("B", "other")
	e.Set("Z", "z")
	e.Unset("a")
	e.Unset("none")
	if v, has := e.Get("a"); v != "" || has {
		t.Errorf("a is hidden, but %q", v)
	}
	if v, has := e.Get("B"); v != "other" || !has {
		t.Error(v, has)
	}
	if v, has := outer.Get("B"); v != "b" || !has {
		t.Error(v, has)
	}
	if l := e.Names(); !slices.Equal(l, []string{"A", "B", "Z", "_"}) {
		t.Error(l)
	}
	if l := outer.Names(); !slices.Equal(l, []string{"A", "B", "_", "a"}) {
		t.Error(l)
	}
	inner := NewEnv(e)
	inner.Set("a", "shown")
	if l := inner.Names(); !slices.Equal(l, []string{"A", "B", "Z", "_", "a"}) {
		t.Error(l)
	}
	inner.Unset("Z")
	inner.Unset("a")
	e.Set("a", "again")
	if l := inner.Names(); !slices.Equal(l, []string{"A", "B", "_"}) {
		t.Error(l)
	}
	inner.Set("a", "")
	if v, has := inner.Get("a"); v != "" || !has {
		t.Error(v, has)
	}
}

func TestEnvNames(t *testing.T) {
	e := NewEnv(nil)
	long := strings.Repeat("A", 1025)
	for _, name := range []string{"A", "z", "_", "A1", "_9", "PATH", strings.Repeat("x", 64)} {
		if errno := e.Set(name, long[:1024]); errno != api.OK {
			t.Errorf("%s: error %d", name, errno)
		}
		if errno := e.Set(name, long); errno != api.ErrLong {
			t.Errorf("%s: error %d", name, errno)
		}
		if v, has := e.Get(name); v != long[:1024] || !has {
			t.Errorf("%s: %q, %v", name, v, has)
		}
	}
	was := e.Names()
	for _, name := range []string{"", "1", "9A", "A-B", "A B", "A=B", "=", "é", "Aé", "A\x00", "\x80", " A", "A ", "@x", "A.b", strings.Repeat("x", 65), strings.Repeat("x", 1<<20), "٣", "A٣"} {
		for _, value := range []string{"", "x", long} {
			if errno := e.Set(name, value); errno != api.ErrName {
				t.Errorf("%.70q: error %d", name, errno)
			}
		}
		e.Unset(name)
		if v, has := e.Get(name); v != "" || has {
			t.Errorf("%.70q: %q", name, v)
		}
	}
	if l := e.Names(); !slices.Equal(l, was) {
		t.Error(l)
	}
}

// Of each byte: may it be a name, may it stand behind a letter?
func TestEnvNamesOfEachByte(t *testing.T) {
	for b := range 256 {
		first := regexp.MustCompile(`^[A-Za-z_]$`).Match([]byte{byte(b)})
		later := regexp.MustCompile(`^[A-Za-z_0-9]$`).Match([]byte{byte(b)})
		e := NewEnv(nil)
		if errno := e.Set(string([]byte{byte(b)}), ""); (errno == api.OK) != first {
			t.Errorf("%d: error %d", b, errno)
		}
		for _, name := range [][]byte{{'A', byte(b)}, {'A', byte(b), 'A'}} {
			if errno := e.Set(string(name), ""); (errno == api.OK) != later {
				t.Errorf("%q: error %d", name, errno)
			}
		}
	}
}

// Of each byte: may a user option have it?
func TestUserNamesOfEachByte(t *testing.T) {
	for b := range 256 {
		may := regexp.MustCompile(`^[A-Za-z_0-9-]$`).Match([]byte{byte(b)})
		s := fresh(t, Server)
		for _, name := range [][]byte{{'@', byte(b)}, {'@', byte(b), 'A'}, {'@', 'A', byte(b)}, {'@', 'A', byte(b), 'A'}} {
			if e := s.Set(string(name), ""); (e == api.OK) != may || s.Has(string(name)) != may {
				t.Errorf("%q: error %d", name, e)
			}
		}
	}
}

func TestEnvOfMany(t *testing.T) {
	e := NewEnv(nil)
	for i := range 250 {
		if errno := e.Set(fmt.Sprint("A", i), "x"); errno != api.OK {
			t.Fatal(i, errno)
		}
		e.Unset(fmt.Sprint("B", i))
	}
	if errno := e.Set("C", ""); errno != api.ErrMany {
		t.Error(errno)
	}
	if errno := e.Set("C", strings.Repeat("x", 1025)); errno != api.ErrLong {
		t.Error(errno)
	}
	if errno := e.Set("B0", "shown"); errno != api.OK {
		t.Error(errno)
	}
	if errno := e.Set("A0", "changed"); errno != api.OK {
		t.Error(errno)
	}
	e.Unset("A1")
	if l := e.Names(); len(l) != 250 || slices.Contains(l, "A1") || !slices.Contains(l, "B0") {
		t.Error(l)
	}
	if errno := e.Set("C", ""); errno != api.ErrMany {
		t.Error(errno)
	}
	inner := NewEnv(e)
	for i := range 499 {
		inner.Unset(fmt.Sprint("C", i))
	}
	inner.Unset("A2")
	inner.Unset("A3") // the 501st: it stays
	if _, has := inner.Get("A2"); has {
		t.Error("A2 is not hidden")
	}
	if v, has := inner.Get("A3"); v != "x" || !has {
		t.Error("A3 is hidden")
	}
	if l := inner.Names(); len(l) != 249 {
		t.Error(len(l))
	}
}

func TestEnvNamesAreNew(t *testing.T) {
	e := NewEnv(nil)
	e.Set("A", "")
	e.Names()[0] = "B"
	if l := e.Names(); !slices.Equal(l, []string{"A"}) {
		t.Error(l)
	}
}

// A long way up.
func TestDeep(t *testing.T) {
	s, e := fresh(t, Session), NewEnv(nil)
	set(t, s, "@x", "far")
	e.Set("X", "far")
	e.Set("Y", "hidden")
	for range 1 << 16 {
		s, e = over(t, Session, s), NewEnv(e)
	}
	e.Unset("Y")
	is(t, s, "@x", "far")
	if v, has := e.Get("X"); v != "far" || !has || !slices.Equal(e.Names(), []string{"X"}) {
		t.Error(v, has)
	}
}

// O8.9

func TestSetToWhatGetTells(t *testing.T) {
	server := fresh(t, Server)
	for _, r := range rows {
		s := over(t, Server, server)
		set(t, s, r.name, r.first)
		is(t, s, r.name, r.first)
	}
	set(t, server, "user-keys[3]", "a,b")
	set(t, server, "user-keys[5]", "")
	v, _ := server.Get("user-keys")
	set(t, server, "user-keys", v)
	is(t, server, "user-keys", "a,b,")
}

var printed = regexp.MustCompile(`(?s)set-option -g ('[^']*'|[^ ]+) ('[^']*'|"(?:\\.|[^\\"])*"|[^ \n]+)\n`)

// read is a word as it was before it was quoted.
func read(word string) string {
	switch word[0] {
	case '\'':
		return strings.Trim(word, "'")
	case '"':
		return regexp.MustCompile(`(?s)\\(.)`).ReplaceAllString(word[1:len(word)-1], "$1")
	}
	return word
}

// again does what Print writes to a set without values.
func again(t *testing.T, s *Set) *Set {
	t.Helper()
	text := s.Print("-g")
	made := fresh(t, Server)
	for _, line := range printed.FindAllStringSubmatch(text, -1) {
		if quote.Word(read(line[1])) != line[1] || quote.Word(read(line[2])) != line[2] {
			t.Errorf("no words: %q", line[0])
		}
		set(t, made, read(line[1]), read(line[2]))
		text = strings.Replace(text, line[0], "", 1)
	}
	if text != "" {
		t.Errorf("no commands: %q", text)
	}
	return made
}

func TestPrintMakesTheSame(t *testing.T) {
	s := fresh(t, Server)
	for _, r := range rows {
		set(t, s, r.name, r.first)
	}
	set(t, s, "user-keys[999]", "'\"\\$ \n{#;")
	set(t, s, "@x", "\\'$")
	set(t, s, "command-alias", strings.Repeat(",", 400))
	if made := again(t, s); made.Print("") != s.Print("") {
		t.Errorf("%s, must be %s", made.Print(""), s.Print(""))
	}
}

// Sets and environments that no call made are without parents, too.
func TestOfNothing(t *testing.T) {
	var s Set
	is(t, &s, "status", "on")
	s.Unset("status")
	set(t, &s, "status", "off")
	is(t, &s, "status", "off")
	var e Env
	e.Unset("A")
	if errno := e.Set("A", "a"); errno != api.OK {
		t.Error(errno)
	}
	if v, has := e.Get("A"); v != "a" || !has {
		t.Error(v, has)
	}
}
