package layout

import (
	"fmt"
	"math/rand"
	"regexp"
	"slices"
	"strconv"
	"strings"
	"testing"

	"mullion/api"
)

// part is a tree kept another way: each part knows its parent, its place and its whole size; these are changed one by one, as the chapter tells it.
type part struct {
	kind       byte // 'p': a leaf; '{', '[': a split
	pane       int
	x, y, w, h int
	kids       []*part
	up         *part
}

// window is what a tree must be.
type window struct{ top *part }

func newWindow(w, h, pane int) *window {
	return &window{&part{kind: 'p', pane: pane, w: w, h: h}}
}

func (p *part) all() (out []*part) {
	out = append(out, p)
	for _, k := range p.kids {
		out = append(out, k.all()...)
	}
	return out
}

func (m *window) leaves() (out []*part) {
	for _, p := range m.top.all() {
		if p.kind == 'p' {
			out = append(out, p)
		}
	}
	return out
}

func (m *window) find(pane int) *part {
	for _, p := range m.leaves() {
		if p.pane == pane {
			return p
		}
	}
	return nil
}

func (m *window) boxes() (out []api.Box) {
	for _, p := range m.leaves() {
		out = append(out, api.Box{Id: p.pane, X: p.x, Y: p.y, W: p.w, H: p.h})
	}
	return out
}

// settle gives each part its parent and its place.
func (m *window) settle() {
	m.top.up, m.top.x, m.top.y = nil, 0, 0
	for _, p := range m.top.all() {
		x, y := p.x, p.y
		for _, k := range p.kids {
			k.up, k.x, k.y = p, x, y
			if p.kind == '{' {
				x += k.w + 1
			} else {
				y += k.h + 1
			}
		}
	}
}

func (p *part) leastW() int {
	n := 1
	switch p.kind {
	case '{':
		n = -1
		for _, k := range p.kids {
			n += k.leastW() + 1
		}
	case '[':
		for _, k := range p.kids {
			n = max(n, k.leastW())
		}
	}
	return n
}

func (p *part) leastH() int {
	n := 1
	switch p.kind {
	case '[':
		n = -1
		for _, k := range p.kids {
			n += k.leastH() + 1
		}
	case '{':
		for _, k := range p.kids {
			n = max(n, k.leastH())
		}
	}
	return n
}

// wider grows it beside, or, below 0, shrinks it.
func (p *part) wider(n int) {
	p.w += n
	switch {
	case p.kind == '[':
		for _, k := range p.kids {
			k.wider(n)
		}
	case p.kind == '{' && n > 0:
		p.kids[len(p.kids)-1].wider(n)
	case p.kind == '{':
		for i := len(p.kids) - 1; i >= 0; i-- {
			k := p.kids[i]
			for n < 0 && k.w > k.leastW() {
				k.wider(-1)
				n++
			}
		}
	}
}

func (p *part) higher(n int) {
	p.h += n
	switch {
	case p.kind == '{':
		for _, k := range p.kids {
			k.higher(n)
		}
	case p.kind == '[' && n > 0:
		p.kids[len(p.kids)-1].higher(n)
	case p.kind == '[':
		for i := len(p.kids) - 1; i >= 0; i-- {
			k := p.kids[i]
			for n < 0 && k.h > k.leastH() {
				k.higher(-1)
				n++
			}
		}
	}
}

func (m *window) split(pane, other int, beside bool, size int, before bool) api.Errno {
	p := m.find(pane)
	if p == nil {
		return api.ErrNone
	}
	if other < 1 || m.find(other) != nil || size < 0 {
		return api.ErrArg
	}
	if len(m.leaves()) == 32 {
		return api.ErrMany
	}
	kind, l := byte('['), p.h
	if beside {
		kind, l = '{', p.w
	}
	if l < 3 || size > l-2 {
		return api.ErrSize
	}
	if size == 0 {
		size = (l - 1) / 2
	}
	fresh := &part{kind: 'p', pane: other, w: p.w, h: p.h}
	if beside {
		fresh.w, p.w = size, p.w-1-size
	} else {
		fresh.h, p.h = size, p.h-1-size
	}
	if p.up == nil || p.up.kind != kind {
		old := *p
		*p = part{kind: kind, w: old.w, h: old.h, kids: []*part{&old}, up: p.up}
		if beside {
			p.w += 1 + size
		} else {
			p.h += 1 + size
		}
		old.up = p
		p = &old
	}
	at := slices.Index(p.up.kids, p)
	if !before {
		at++
	}
	p.up.kids = slices.Insert(p.up.kids, at, fresh)
	m.settle()
	return api.OK
}

func (m *window) close(pane int) api.Errno {
	p := m.find(pane)
	if p == nil {
		return api.ErrNone
	}
	if m.top == p {
		return api.ErrState
	}
	parent := p.up
	at := slices.Index(parent.kids, p)
	heir := parent.kids[1]
	if at > 0 {
		heir = parent.kids[at-1]
	}
	if parent.kind == '{' {
		heir.wider(p.w + 1)
	} else {
		heir.higher(p.h + 1)
	}
	parent.kids = slices.DeleteFunc(parent.kids, func(k *part) bool { return k == p })
	if len(parent.kids) == 1 {
		only, grand := parent.kids[0], parent.up
		if grand == nil {
			m.top = only
		} else {
			i := slices.Index(grand.kids, parent)
			stead := []*part{only}
			if only.kind == grand.kind {
				stead = only.kids
			}
			grand.kids = slices.Concat(grand.kids[:i], stead, grand.kids[i+1:])
		}
	}
	m.settle()
	return api.OK
}

func (m *window) swap(a, b int) api.Errno {
	p, q := m.find(a), m.find(b)
	if p == nil || q == nil {
		return api.ErrNone
	}
	p.pane, q.pane = q.pane, p.pane
	return api.OK
}

func (m *window) rename(pane, other int) api.Errno {
	p := m.find(pane)
	if p == nil {
		return api.ErrNone
	}
	if other < 1 || m.find(other) != nil {
		return api.ErrArg
	}
	p.pane = other
	return api.OK
}

func (m *window) resize(pane int, way byte, n int) api.Errno {
	p := m.find(pane)
	if p == nil {
		return api.ErrNone
	}
	kind, is := map[byte]byte{'L': '{', 'R': '{', 'U': '[', 'D': '['}[way]
	if !is || n < 1 {
		return api.ErrArg
	}
	for p.up != nil && p.up.kind != kind {
		p = p.up
	}
	if p.up == nil {
		return api.ErrState
	}
	kids := p.up.kids
	a, b := kids[len(kids)-2], kids[len(kids)-1]
	for i, k := range kids[:len(kids)-1] {
		if k == p {
			a, b = k, kids[i+1]
		}
	}
	if way == 'L' || way == 'U' {
		a, b = b, a
	}
	can := b.h - b.leastH()
	if kind == '{' {
		can = b.w - b.leastW()
	}
	if n = min(n, can); n == 0 {
		return api.ErrSize
	}
	if kind == '{' {
		a.wider(n)
		b.wider(-n)
	} else {
		a.higher(n)
		b.higher(-n)
	}
	m.settle()
	return api.OK
}

func (m *window) fit(w, h int) api.Errno {
	if w < 1 || w > 250 || h < 1 || h > 120 {
		return api.ErrArg
	}
	if w < m.top.leastW() || h < m.top.leastH() {
		return api.ErrSize
	}
	m.top.wider(w - m.top.w)
	m.top.higher(h - m.top.h)
	m.settle()
	return api.OK
}

// laid is a list's panes evenly in a space: their sizes are dealt out one by one.
func laid(kind byte, w, h int, kids []*part) *part {
	if len(kids) == 1 {
		kids[0].w, kids[0].h = w, h
		return kids[0]
	}
	for _, k := range kids {
		k.w, k.h = w, h
		if kind == '{' {
			k.w = 0
		} else {
			k.h = 0
		}
	}
	left := h - (len(kids) - 1)
	if kind == '{' {
		left = w - (len(kids) - 1)
	}
	for i := 0; left > 0; i, left = i+1, left-1 {
		if kind == '{' {
			kids[i%len(kids)].w++
		} else {
			kids[i%len(kids)].h++
		}
	}
	return &part{kind: kind, w: w, h: h, kids: kids}
}

func fresh(panes []*part) (out []*part) {
	for _, p := range panes {
		out = append(out, &part{kind: 'p', pane: p.pane})
	}
	return out
}

func (m *window) preset(name string) api.Errno {
	w, h := m.top.w, m.top.h
	panes := fresh(m.leaves())
	n := len(panes)
	var top *part
	switch {
	case !slices.Contains([]string{"even-horizontal", "even-vertical", "main-horizontal", "main-vertical", "tiled"}, name):
		return api.ErrName
	case n == 1:
		return api.OK
	case name == "even-horizontal":
		top = laid('{', w, h, panes)
	case name == "even-vertical":
		top = laid('[', w, h, panes)
	case name == "main-horizontal":
		half := (h - 1) / 2
		panes[0].w, panes[0].h = w, h-1-half
		top = &part{kind: '[', w: w, h: h, kids: []*part{panes[0], laid('{', w, half, panes[1:])}}
	case name == "main-vertical":
		half := (w - 1) / 2
		panes[0].w, panes[0].h = w-1-half, h
		top = &part{kind: '{', w: w, h: h, kids: []*part{panes[0], laid('[', half, h, panes[1:])}}
	case name == "tiled":
		top = tiles(w, h, panes)
	}
	for _, p := range top.all() {
		if p.w < 1 || p.h < 1 {
			return api.ErrSize
		}
	}
	m.top = top
	m.settle()
	return api.OK
}

func tiles(w, h int, panes []*part) *part {
	c := 1
	for ; c*c < len(panes); c++ {
	}
	var lines []*part
	for i := 0; i < len(panes); i += c {
		lines = append(lines, &part{})
	}
	whole := laid('[', w, h, lines)
	for i, p := range lines {
		*p = *laid('{', p.w, p.h, slices.Clone(panes[i*c:min(i*c+c, len(panes))]))
	}
	return whole
}

func (p *part) text() string {
	s := fmt.Sprintf("%dx%d,%d,%d", p.w, p.h, p.x, p.y)
	if p.kind == 'p' {
		return s + fmt.Sprintf(",%d", p.pane)
	}
	s += string(p.kind)
	for i, k := range p.kids {
		if i > 0 {
			s += ","
		}
		s += k.text()
	}
	return s + string(p.kind+2)
}

// sum is a text's, its bits as a list, the highest first.
func sum(s string) string {
	bits := make([]int, 16)
	for _, b := range []byte(s) {
		bits = append(bits[15:], bits[:15]...)
		carry := 0
		for i := 15; i >= 0; i-- {
			n := bits[i] + carry
			if 15-i < 8 {
				n += int(b >> (15 - i) & 1)
			}
			bits[i], carry = n%2, n/2
		}
	}
	out := ""
	for i := 0; i < 16; i += 4 {
		out += string("0123456789abcdef"[8*bits[i]+4*bits[i+1]+2*bits[i+2]+bits[i+3]])
	}
	return out
}

// signed is a body with its sum ahead.
func signed(body string) string { return sum(body) + "," + body }

func (m *window) print() string { return signed(m.top.text()) }

var head = regexp.MustCompile(`^(0|[1-9][0-9]{0,8})x(0|[1-9][0-9]{0,8}),(0|[1-9][0-9]{0,8}),(0|[1-9][0-9]{0,8})(?:,(0|[1-9][0-9]{0,8})|([{[]))`)

// parsed is the part at a text's beginning, which must lie there in a parent of that kind, and what is behind; nil: there is none.
func parsed(s string, x, y int, parent byte) (*part, string) {
	l := head.FindStringSubmatch(s)
	if l == nil {
		return nil, ""
	}
	var n [5]int
	for i := range n {
		n[i], _ = strconv.Atoi(l[i+1])
	}
	p := &part{kind: 'p', w: n[0], h: n[1], x: n[2], y: n[3], pane: n[4]}
	if p.x != x || p.y != y || p.w < 1 || p.h < 1 {
		return nil, ""
	}
	s = s[len(l[0]):]
	if l[6] == "" {
		return p, s
	}
	p.kind = l[6][0]
	if p.kind == parent {
		return nil, ""
	}
	for {
		k, rest := parsed(s, x, y, p.kind)
		if k == nil || rest == "" || p.kind == '{' && k.h != p.h || p.kind == '[' && k.w != p.w {
			return nil, ""
		}
		p.kids = append(p.kids, k)
		if p.kind == '{' {
			x += k.w + 1
		} else {
			y += k.h + 1
		}
		s = rest[1:]
		switch {
		case rest[0] == ',':
		case rest[0] != p.kind+2 || len(p.kids) < 2 || p.kind == '{' && x-1 != p.x+p.w || p.kind == '[' && y-1 != p.y+p.h:
			return nil, ""
		default:
			return p, s
		}
	}
}

var begin = regexp.MustCompile(`^[0-9a-f]{4},`)

func (m *window) apply(s string) api.Errno {
	if len(s) > 4096 {
		return api.ErrLong
	}
	if !begin.MatchString(s) {
		return api.ErrForm
	}
	if s[:4] != sum(s[5:]) {
		return api.ErrSum
	}
	top, rest := parsed(s[5:], 0, 0, 'p')
	if top == nil || rest != "" || top.w > 250 || top.h > 120 {
		return api.ErrForm
	}
	was := m.leaves()
	laid := (&window{top}).leaves()
	if len(was) != len(laid) {
		return api.ErrMany
	}
	for i, p := range laid {
		p.pane = was[i].pane
	}
	m.top = top
	m.settle()
	return api.OK
}

// clone is a copy of its own.
func (m *window) clone() *window {
	var copied func(p *part) *part
	copied = func(p *part) *part {
		own := *p
		own.kids = nil
		for _, k := range p.kids {
			own.kids = append(own.kids, copied(k))
		}
		return &own
	}
	out := &window{copied(m.top)}
	out.settle()
	return out
}

// painted is which pane each place is in, row by row: 0: in a line; -1: in two boxes; -2: in nothing.
func (m *window) painted() [][]int {
	out := make([][]int, m.top.h)
	for y := range out {
		out[y] = slices.Repeat([]int{-2}, m.top.w)
	}
	fill := func(x, y, w, h, with int) {
		for _, row := range out[y : y+h] {
			for i := range row[x : x+w] {
				if row[x+i] != -2 {
					with = -1
				}
				row[x+i] = with
			}
		}
	}
	for _, p := range m.top.all() {
		if p.kind == 'p' {
			fill(p.x, p.y, p.w, p.h, p.pane)
		}
		for i, k := range p.kids {
			switch {
			case i == 0:
			case p.kind == '{':
				fill(k.x-1, p.y, 1, p.h, 0)
			default:
				fill(p.x, k.y-1, p.w, 1, 0)
			}
		}
	}
	return out
}

// beside looks at the places beyond the line at a pane's side.
func (m *window) beside(pane int, way byte) int {
	p := m.find(pane)
	if p == nil {
		return 0
	}
	x, y, dx, dy, n := 0, 0, 0, 0, 0
	switch way {
	case 'L':
		x, y, dy, n = p.x-2, p.y, 1, p.h
	case 'R':
		x, y, dy, n = p.x+p.w+1, p.y, 1, p.h
	case 'U':
		x, y, dx, n = p.x, p.y-2, 1, p.w
	case 'D':
		x, y, dx, n = p.x, p.y+p.h+1, 1, p.w
	}
	places := m.painted()
	there := map[int]bool{}
	for range n {
		if x >= 0 && y >= 0 && y < m.top.h && x < m.top.w {
			there[places[y][x]] = true
		}
		x, y = x+dx, y+dy
	}
	for _, p := range m.leaves() {
		if there[p.pane] {
			return p.pane
		}
	}
	return 0
}

// step is a call, as a text, on a tree and on what it must be.
type step struct {
	name string
	on   func(t *Tree) api.Errno
	must func(m *window) api.Errno
}

// chance chooses what is done.
type chance struct{ *rand.Rand }

func (r chance) of(l ...int) int { return l[r.Intn(len(l))] }

// pane is mostly one that is there.
func (r chance) pane(m *window) int {
	l := m.leaves()
	if r.Intn(12) == 0 {
		return r.of(-1, 0, 77, 1<<40, far[r.Intn(len(far))])
	}
	return l[r.Intn(len(l))].pane
}

func (r chance) number(most int) int {
	if r.Intn(15) == 0 {
		return far[r.Intn(len(far))]
	}
	return r.Intn(most + 3)
}

func (r chance) way() byte { return "LRUDLRUDLRUDLRUDlx\x00{"[r.Intn(20)] }

func (r chance) step(m *window) step {
	a, b, c, yes, way := r.pane(m), r.pane(m), 1+r.Intn(60), r.Intn(2) == 0, r.way()
	switch r.Intn(14) {
	case 0, 1, 2, 3, 4:
		if r.Intn(10) == 0 {
			c = b
		}
		size, before := r.of(0, 0, 0, r.number(20)), r.Intn(2) == 0
		return step{fmt.Sprint("Split ", a, c, yes, size, before), func(t *Tree) api.Errno { return t.Split(a, c, yes, size, before) }, func(m *window) api.Errno { return m.split(a, c, yes, size, before) }}
	case 5, 6:
		return step{fmt.Sprint("Close ", a), func(t *Tree) api.Errno { return t.Close(a) }, func(m *window) api.Errno { return m.close(a) }}
	case 7:
		return step{fmt.Sprint("Swap ", a, b), func(t *Tree) api.Errno { return t.Swap(a, b) }, func(m *window) api.Errno { return m.swap(a, b) }}
	case 8:
		c = r.of(b, c, c)
		return step{fmt.Sprint("Rename ", a, c), func(t *Tree) api.Errno { return t.Rename(a, c) }, func(m *window) api.Errno { return m.rename(a, c) }}
	case 9, 10:
		n := r.number(9)
		return step{fmt.Sprint("Resize ", a, way, n), func(t *Tree) api.Errno { return t.Resize(a, way, n) }, func(m *window) api.Errno { return m.resize(a, way, n) }}
	case 11:
		w, h := r.number(r.of(10, 40, 250)), r.number(r.of(10, 40, 120))
		return step{fmt.Sprint("Fit ", w, h), func(t *Tree) api.Errno { return t.Fit(w, h) }, func(m *window) api.Errno { return m.fit(w, h) }}
	case 12:
		name := names[r.Intn(len(names))]
		return step{"Preset " + name, func(t *Tree) api.Errno { return t.Preset(name) }, func(m *window) api.Errno { return m.preset(name) }}
	}
	s := r.text(m)
	return step{"Apply " + s, func(t *Tree) api.Errno { return t.Apply(s) }, func(m *window) api.Errno { return m.apply(s) }}
}

var names = []string{"even-horizontal", "even-vertical", "main-horizontal", "main-vertical", "tiled", "tiled", "", "Tiled", "even", "main-horizontal-", "main"}

// text is one of another tree, mostly of as many panes; now and then something in it is changed.
func (r chance) text(m *window) string {
	other := newWindow(1+r.Intn(60), 1+r.Intn(60), 1)
	for i := range len(m.leaves()) + r.of(0, 0, 0, 0, 1, -1) - 1 {
		for range 20 {
			if other.split(r.pane(other), 2+i, r.Intn(2) == 0, r.Intn(5), r.Intn(2) == 0) == api.OK {
				break
			}
		}
	}
	body := []byte(other.top.text())
	for range r.of(0, 0, 1, 2) {
		at := r.Intn(len(body))
		switch r.Intn(4) {
		case 0:
			body[at] = "0123456789x,{}[]"[r.Intn(16)]
		case 1:
			body = slices.Delete(body, at, at+1)
		case 2:
			body = slices.Insert(body, at, "0123456789x,{}[]"[r.Intn(16)])
		case 3:
			body[at] = byte(r.Intn(256))
		}
	}
	s := []byte(signed(string(body)))
	if r.Intn(10) == 0 {
		s[r.Intn(5)] = byte(r.of('0', 'a', 'A', 'g', ',', 0))
	}
	return string(s)
}

// wrongs is how a tree isn't what it must be; nothing, if it is.
func wrongs(t *Tree, m *window) string {
	if got, want := t.Print(), m.print(); got != want {
		return "Print " + got + ", must be " + want
	}
	if got, want := t.Boxes(), m.boxes(); !slices.Equal(got, want) {
		return fmt.Sprint("Boxes ", got, ", must be ", want)
	}
	if w, h := t.Size(); w != m.top.w || h != m.top.h {
		return fmt.Sprint("Size ", w, h, ", must be ", m.top.w, m.top.h)
	}
	var panes []int
	for _, p := range m.leaves() {
		panes = append(panes, p.pane)
	}
	for pane := -1; pane < 65; pane++ {
		if is := slices.Contains(panes, pane); t.Has(pane) != is {
			return fmt.Sprint("Has ", pane, ", must be ", is)
		}
	}
	for _, row := range m.painted() {
		if i := slices.IndexFunc(row, func(n int) bool { return n < 0 }); i >= 0 {
			return fmt.Sprint("not filled once: ", row)
		}
	}
	return ""
}

func besides(t *Tree, m *window, pane int, way byte) string {
	if got, want := t.Beside(pane, way), m.beside(pane, way); got != want {
		return fmt.Sprintf("Beside %d, %q: %d, must be %d", pane, way, got, want)
	}
	return ""
}

// longName is a pane that no text may have.
var longName = regexp.MustCompile(`\d{10}`)

// TestAnyCalls does any calls one behind the other.
func TestAnyCalls(t *testing.T) {
	seen := map[string]int{}
	for seed := range int64(150) {
		r := chance{rand.New(rand.NewSource(seed))}
		w, h := 1+r.Intn(r.of(12, 60, 250)), 1+r.Intn(r.of(12, 60, 120))
		tree, _ := New(w, h, 1)
		m := newWindow(w, h, 1)
		done := fmt.Sprintf("seed %d: New(%d, %d, 1)", seed, w, h)
		crowd := r.of(0, 0, 40, 90)
		for i := range 150 {
			s := r.step(m)
			for i < crowd && !strings.HasPrefix(s.name, "Split") {
				s = r.step(m)
			}
			done += "; " + s.name
			kept, was, mustBe := tree.Clone(), tree.Print(), m.clone()
			got, want := s.on(tree), s.must(m)
			seen[fmt.Sprint(strings.Fields(s.name)[0], " ", int(want))]++
			if got != want {
				t.Fatalf("%s: error %d, must be %d", done, got, want)
			}
			if s := wrongs(tree, m); s != "" {
				t.Fatalf("%s: %s", done, s)
			}
			if s := besides(tree, m, r.pane(m), r.way()); s != "" {
				t.Fatalf("%s: %s", done, s)
			}
			if again := tree.Clone(); again.Apply(tree.Print()) != api.OK && !longName.MatchString(tree.Print()) || again.Print() != tree.Print() {
				t.Fatalf("%s: Apply of Print: %s, was %s", done, again.Print(), tree.Print())
			}
			if kept.Print() != was || got != api.OK && tree.Print() != was {
				t.Fatalf("%s: the clone is %s, was %s", done, kept.Print(), was)
			}
			if r.Intn(8) == 0 {
				tree = kept.Clone()
				if e := s.on(kept); e != want || tree.Print() != was {
					t.Fatalf("%s: on a clone: error %d, and it is %s, was %s", done, e, tree.Print(), was)
				}
				m = mustBe
				done += "; back"
			}
		}
	}
	for _, what := range []string{"Split 0", "Split 1", "Split 3", "Split 5", "Split 8", "Close 0", "Close 8", "Close 14", "Swap 0", "Swap 8", "Rename 0", "Rename 1", "Rename 8", "Resize 0", "Resize 1", "Resize 5", "Resize 8", "Resize 14", "Fit 0", "Fit 1", "Fit 5", "Preset 0", "Preset 5", "Preset 6", "Apply 0", "Apply 3", "Apply 4", "Apply 15"} {
		if seen[what] == 0 {
			t.Errorf("%s never came about: %v", what, seen)
		}
	}
}

// TestAnyBodies holds Apply against the chapter's words: any bytes, and texts that are nearly right.
func TestAnyBodies(t *testing.T) {
	for seed := range int64(40) {
		r := chance{rand.New(rand.NewSource(seed))}
		m := newWindow(60, 60, 1)
		for i := range r.Intn(5) {
			m.split(r.pane(m), 2+i, r.Intn(2) == 0, 0, false)
		}
		tree := treeOf(t, m.top.text())
		for range 500 {
			s := r.text(m)
			if r.Intn(4) == 0 {
				b := make([]byte, r.Intn(30))
				for i := range b {
					b[i] = "012x,{}[]\xff"[r.Intn(10)]
				}
				s = string(b)
				if r.Intn(2) == 0 {
					s = signed(s)
				}
			}
			got, want := tree.Apply(s), m.apply(s)
			if got != want || tree.Print() != m.print() {
				t.Fatalf("seed %d: Apply(%q): error %d, must be %d: %s, must be %s", seed, s, got, want, tree.Print(), m.print())
			}
		}
	}
}
