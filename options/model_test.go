package options

import (
	"fmt"
	"math/rand"
	"regexp"
	"slices"
	"sort"
	"strconv"
	"strings"
	"testing"

	"mullion/api"
	"mullion/quote"
	"mullion/style"
)

// model is a set kept another way: each option and each item is a text of its own, under its whole name.
type model struct {
	scope int
	has   map[string]string
	up    *model
}

var (
	userForm   = regexp.MustCompile(`^@[A-Za-z0-9_-]{1,63}$`)
	itemForm   = regexp.MustCompile(`(?s)^(.*)\[(0|[1-9][0-9]{0,2})\]$`)
	numberForm = regexp.MustCompile(`^-?[0-9]{1,9}$`)
	envForm    = regexp.MustCompile(`^[A-Za-z_][A-Za-z0-9_]{0,63}$`)
)

// rowOf is an option's, or a user option's, row, and the number of an item of it (-1: none).
func rowOf(name string) (row, int, bool) {
	if userForm.MatchString(name) {
		return row{name: name, kind: "string", scope: 4}, -1, true
	}
	array, n := "", 0
	if p := itemForm.FindStringSubmatch(name); p != nil {
		array = p[1]
		n, _ = strconv.Atoi(p[2])
	}
	for _, r := range rows {
		if r.name == name {
			return r, -1, true
		}
		if r.name == array && r.kind == "array" {
			return r, n, true
		}
	}
	return row{}, -1, false
}

// items are the numbers of those that it has of an array, rising.
func (m *model) items(array string) []int {
	var l []int
	for name := range m.has {
		if p := itemForm.FindStringSubmatch(name); p != nil && p[1] == array {
			n, _ := strconv.Atoi(p[2])
			l = append(l, n)
		}
	}
	sort.Ints(l)
	return l
}

func (m *model) drop(name string) {
	delete(m.has, name)
	for _, n := range m.items(name) {
		delete(m.has, fmt.Sprintf("%s[%d]", name, n))
	}
}

func (m *model) copy() *model {
	c := &model{m.scope, map[string]string{}, m.up}
	for k, v := range m.has {
		c.has[k] = v
	}
	return c
}

func (m *model) get(name string) (string, api.Errno) {
	r, n, is := rowOf(name)
	if !is {
		return "", api.ErrName
	}
	for ; m != nil; m = m.up {
		v, has := m.has[r.name]
		if !has {
			continue
		}
		if n >= 0 {
			if v, has = m.has[name]; !has {
				return "", api.ErrNone
			}
			return v, api.OK
		}
		if r.kind == "array" {
			var l []string
			for _, n := range m.items(name) {
				l = append(l, m.has[fmt.Sprintf("%s[%d]", name, n)])
			}
			return strings.Join(l, ","), api.OK
		}
		return v, api.OK
	}
	if r.goes == "" && name[0] == '@' {
		return "", api.ErrNone
	}
	if n < 0 {
		return r.first, api.OK
	}
	if l := strings.Split(r.first, ","); r.first != "" && n < len(l) {
		return l[n], api.OK
	}
	return "", api.ErrNone
}

// makes is what a kind makes of a text.
func (r row) makes(text string) (string, bool) {
	switch r.kind {
	case "number":
		least, most := r.bounds()
		n, _ := strconv.Atoi(text)
		return strconv.Itoa(n), numberForm.MatchString(text) && n >= least && n <= most
	case "flag":
		v, is := map[string]string{"on": "on", "yes": "on", "1": "on", "off": "off", "no": "off", "0": "off"}[text]
		return v, is
	case "choice":
		return text, slices.Contains(strings.Split(r.goes, ", "), text)
	case "colour":
		c, e := style.Colour(text)
		return style.Name(c), e == api.OK
	case "style":
		_, e := style.Parse(text, api.Style{})
		return text, e == api.OK
	}
	return text, true
}

// changed is the model as a call would make it, if it may.
func (m *model) changed(add bool, name, value string) (*model, api.Errno) {
	r, n, is := rowOf(name)
	switch {
	case !is:
		return nil, api.ErrName
	case r.scope < m.scope:
		return nil, api.ErrNone
	case len(value) > 1024:
		return nil, api.ErrLong
	}
	c := m.copy()
	switch {
	case add && !slices.Contains([]string{"string", "style", "array"}, r.kind):
		return nil, api.ErrType
	case add && n >= 0:
		value = m.has[name] + value
	case add && r.kind == "array":
		n = 0
		if l := m.items(name); len(l) > 0 {
			n = l[len(l)-1] + 1
		}
		if n == 1000 {
			return nil, api.ErrMany
		}
	case add:
		was, _ := m.get(name)
		if r.kind == "style" && was != "" && value != "" {
			was += ","
		}
		value = was + value
	}
	if len(value) > 1024 {
		return nil, api.ErrLong
	}
	switch {
	case n >= 0:
		c.has[r.name] = ""
		c.has[fmt.Sprintf("%s[%d]", r.name, n)] = value
	case r.kind == "array":
		c.drop(name)
		c.has[name] = ""
		l := strings.Split(value, ",")
		if value == "" {
			l = nil
		}
		if len(l) > 1000 {
			return nil, api.ErrType
		}
		for i, v := range l {
			c.has[fmt.Sprintf("%s[%d]", name, i)] = v
		}
	default:
		if v, _ := m.get(name); r.kind == "flag" && value == "" {
			value = map[string]string{"on": "off", "off": "on"}[v]
		}
		if c.has[name], is = r.makes(value); !is {
			return nil, api.ErrType
		}
	}
	if len(c.has) > 500 {
		return nil, api.ErrMany
	}
	return c, api.OK
}

func (m *model) change(add bool, name, value string) api.Errno {
	c, e := m.changed(add, name, value)
	if e == api.OK {
		m.has = c.has
	}
	return e
}

func (m *model) unset(name string) api.Errno {
	if _, n, is := rowOf(name); !is {
		return api.ErrName
	} else if n < 0 {
		m.drop(name)
	}
	delete(m.has, name)
	return api.OK
}

func (m *model) names() []string {
	var l []string
	for name := range m.has {
		if !strings.HasSuffix(name, "]") {
			l = append(l, name)
		}
	}
	sort.Strings(l)
	return l
}

func (m *model) print() string {
	out := ""
	for _, name := range m.names() {
		out += "set-option " + quote.Word(name) + " " + quote.Word(m.has[name]) + "\n"
		for _, n := range m.items(name) {
			item := fmt.Sprintf("%s[%d]", name, n)
			out += "set-option '" + item + "' " + quote.Word(m.has[item]) + "\n"
		}
	}
	return out
}

var someValues = []string{
	"", "", "", "on", "off", "yes", "no", "1", "0", "5", "007", "-0", "-1", "120", "121", "250", "251", "9999", "10000", "10001", "100000", "100001", "999999999", "0000000001", "1000000000",
	"red", "RED", "colour16", "colour09", "#FF0000", "fg=red", "bold", "fg=red,bold", "nobold", "default", "none", "oops", "fg=", "left", "right", "centre", "top", "bottom", "vi", "emacs", "external", "all",
	"a", "a,b", ",", "a,,b", ",,,,,,,,,", " ", "it's", "'", "\"$\\", "x y", "\n", "\x00\xff", "é,日",
}

// anyValue is one, often of a kind that fits somewhere.
func anyValue(r *rand.Rand) string {
	switch r.Intn(20) {
	case 0:
		return strings.Repeat("x", 1020+r.Intn(8))
	case 1:
		return strings.Repeat(",", r.Intn(1100))
	case 2:
		return strings.Repeat(",", r.Intn(300))
	case 3:
		return strings.Repeat(" ", 200+r.Intn(100))
	case 4:
		return strconv.Itoa(r.Intn(300) - 20)
	}
	return someValues[r.Intn(len(someValues))]
}

// anyName is one of few or of many, sometimes a wrong one.
func anyName(r *rand.Rand) string {
	arrays := []string{"command-alias", "user-keys", "update-environment"}
	array := arrays[r.Intn(3)]
	switch r.Intn(16) {
	case 0:
		name := wrongNames[r.Intn(len(wrongNames))]
		return name[:min(len(name), 99)]
	case 1, 2:
		return []string{"@x", "@y", "@z"}[r.Intn(3)]
	case 3:
		return fmt.Sprintf("@%d", r.Intn(200))
	case 4:
		return array
	case 5, 6:
		return fmt.Sprintf("%s[%d]", array, r.Intn(8))
	case 7:
		return fmt.Sprintf("%s[%d]", array, r.Intn(1010))
	case 8:
		return fmt.Sprintf("%s[%d]", array, 990+r.Intn(12))
	case 9, 10:
		return []string{"status", "mouse", "prefix", "mode-style", "status-style", "base-index"}[r.Intn(6)]
	}
	return rows[r.Intn(len(rows))].name
}

// tried does a call with a set and its model, and holds the answers against one another.
func tried(t *testing.T, s *Set, m *model, r *rand.Rand) {
	name, value := anyName(r), anyValue(r)
	what, e, want := "", api.OK, api.OK
	switch r.Intn(16) {
	case 0, 1, 2, 3, 4, 5, 6, 7:
		what, e, want = "Set", s.Set(name, value), m.change(false, name, value)
	case 8, 9, 10, 11, 12:
		what, e, want = "Append", s.Append(name, value), m.change(true, name, value)
	case 13, 14:
		what, e, want = "Unset", s.Unset(name), m.unset(name)
	default:
		if r.Intn(20) == 0 {
			for _, name := range m.names() {
				s.Unset(name)
				m.unset(name)
			}
		}
	}
	if e != want {
		t.Fatalf("%s %.40q %.40q: error %d, must be %d", what, name, value, e, want)
	}
}

// alike holds what a set tells of a name against its model.
func alike(t *testing.T, s *Set, m *model, name string) {
	v, e := s.Get(name)
	wantV, want := m.get(name)
	if v != wantV || e != want {
		t.Fatalf("Get %.40q: %.60q and error %d, must be %.60q and error %d", name, v, e, wantV, want)
	}
	r, _, is := rowOf(name)
	_, has := m.has[name]
	if got := s.Has(name); got != (is && has) {
		t.Fatalf("Has %.40q: %v", name, got)
	}
	number, wantNumber := 0, want
	flag, wantFlag := false, want
	switch {
	case want != api.OK:
	case r.kind == "number":
		number, _ = strconv.Atoi(wantV)
		wantFlag = api.ErrType
	case r.kind == "flag":
		flag = wantV == "on"
		wantNumber = api.ErrType
	default:
		wantNumber, wantFlag = api.ErrType, api.ErrType
	}
	if n, e := s.Number(name); n != number || e != wantNumber {
		t.Fatalf("Number %.40q: %d and error %d", name, n, e)
	}
	if f, e := s.Flag(name); f != flag || e != wantFlag {
		t.Fatalf("Flag %.40q: %v and error %d", name, f, e)
	}
}

// Any calls one behind the other, with sets over one another.
func TestAnyCalls(t *testing.T) {
	for seed := range int64(100) {
		r := rand.New(rand.NewSource(seed))
		sets, models := []*Set{}, []*model{}
		for len(sets) < 5 {
			scope := 1 + r.Intn(4)
			var up *Set
			var upModel *model
			if n := len(sets); n > 0 {
				i := r.Intn(n)
				up, upModel = sets[i], models[i]
			}
			if s, e := New(scope, up); e == api.OK {
				sets, models = append(sets, s), append(models, &model{scope, map[string]string{}, upModel})
			} else if up.scope <= scope || e != api.ErrArg {
				t.Fatalf("New(%d): error %d", scope, e)
			}
		}
		for range 600 {
			i := r.Intn(len(sets))
			tried(t, sets[i], models[i], r)
			for range 4 {
				i := r.Intn(len(sets))
				alike(t, sets[i], models[i], anyName(r))
			}
		}
		for i, s := range sets {
			if l := s.Names(); !slices.Equal(l, models[i].names()) {
				t.Fatalf("names %q, must be %q", l, models[i].names())
			}
			if text := s.Print(""); text != models[i].print() {
				t.Fatalf("%s, must be %s", text, models[i].print())
			}
			if made := again(t, s); made.Print("") != s.Print("") {
				t.Fatalf("%s, must be %s", made.Print(""), s.Print(""))
			}
			settled(t, s)
		}
	}
}

// settled tells whether Set to what Get tells changes nothing of Get.
func settled(t *testing.T, s *Set) {
	for _, r := range rows {
		v, _ := s.Get(r.name)
		s.Set(r.name, v)
		if now, _ := s.Get(r.name); now != v {
			t.Fatalf("%s: %q, set to that it is %q", r.name, v, now)
		}
	}
}

// outside is an environment kept another way: names that are hidden are nil.
type outside struct {
	said map[string]*string
	up   *outside
}

func (o *outside) get(name string) (string, bool) {
	for ; o != nil; o = o.up {
		if v, said := o.said[name]; said {
			if v == nil {
				return "", false
			}
			return *v, true
		}
	}
	return "", false
}

func (o *outside) change(name string, value *string) api.Errno {
	_, said := o.said[name]
	switch {
	case !envForm.MatchString(name):
		return api.ErrName
	case value != nil && len(*value) > 1024:
		return api.ErrLong
	case !said && len(o.said) == 500:
		return api.ErrMany
	}
	o.said[name] = value
	return api.OK
}

func (o *outside) names() []string {
	l := []string{}
	for p := o; p != nil; p = p.up {
		for name := range p.said {
			if _, has := o.get(name); has {
				l = append(l, name)
			}
		}
	}
	sort.Strings(l)
	return slices.Compact(l)
}

func TestAnyCallsOfEnv(t *testing.T) {
	for seed := range int64(40) {
		r := rand.New(rand.NewSource(seed))
		envs, models := []*Env{NewEnv(nil)}, []*outside{{map[string]*string{}, nil}}
		for len(envs) < 4 {
			i := r.Intn(len(envs))
			envs, models = append(envs, NewEnv(envs[i])), append(models, &outside{map[string]*string{}, models[i]})
		}
		kinds := 2 + r.Intn(700)
		for range 5000 {
			i := r.Intn(len(envs))
			name, value := fmt.Sprintf("V_%d", r.Intn(kinds)), anyValue(r)
			if r.Intn(20) == 0 {
				name = anyName(r)
			}
			if r.Intn(3) == 0 {
				envs[i].Unset(name)
				models[i].change(name, nil)
			} else if e, want := envs[i].Set(name, value), models[i].change(name, &value); e != want {
				t.Fatalf("Set %.40q: error %d, must be %d", name, e, want)
			}
			for j, e := range envs {
				v, has := e.Get(name)
				if wantV, want := models[j].get(name); v != wantV || has != want {
					t.Fatalf("Get %.40q: %.40q, %v, must be %.40q, %v", name, v, has, wantV, want)
				}
			}
		}
		for j, e := range envs {
			if l := e.Names(); !slices.Equal(l, models[j].names()) {
				t.Fatalf("names %q, must be %q", l, models[j].names())
			}
		}
	}
}
