package layout

import (
	"fmt"
	"math"
	"math/rand"
	"regexp"
	"slices"
	"strconv"
	"strings"
	"testing"

	"mullion/api"
)

var far = []int{math.MinInt, math.MinInt + 1, math.MinInt32, -1 << 32, -1000, 1000, 1 << 32, math.MaxInt32, math.MaxInt - 1, math.MaxInt}

var leafOf = regexp.MustCompile(`\d+x\d+,\d+,\d+,(\d+)`)

// treeOf is the tree of a body, with the panes that stand there.
func treeOf(t *testing.T, body string) *Tree {
	t.Helper()
	const first = 1 << 40
	tree, _ := New(250, 1, first)
	panes := leafOf.FindAllStringSubmatch(body, -1)
	for i := range len(panes) - 1 {
		if e := tree.Split(first+i, first+i+1, true, 248-2*i, false); e != api.OK {
			t.Fatalf("%s: Split: error %d", body, e)
		}
	}
	if e := tree.Apply(signed(body)); e != api.OK {
		t.Fatalf("%s: Apply: error %d", body, e)
	}
	for i, l := range panes {
		id, _ := strconv.Atoi(l[1])
		if e := tree.Rename(first+i, id); e != api.OK {
			t.Fatalf("%s: Rename to %d: error %d", body, id, e)
		}
	}
	is(t, tree, body, body)
	return tree
}

// is tells whether a tree's body is so.
func is(t *testing.T, tree *Tree, what, body string) {
	t.Helper()
	if got := tree.Print(); got != signed(body) {
		t.Errorf("%s: %s, must be %s", what, got, signed(body))
	}
}

// call is what is done with a tree, the error of it, and the tree's body then; with an error it stays.
type call struct {
	do   string
	want string
	e    api.Errno
}

// done does a call that is written as Name argument argument..
func done(t *testing.T, tree *Tree, do string) api.Errno {
	t.Helper()
	l := strings.Split(do, " ")
	n := make([]int, 6)
	for i, s := range l[1:] {
		n[i], _ = strconv.Atoi(s)
	}
	switch l[0] {
	case "Split":
		return tree.Split(n[0], n[1], l[3] == "beside", n[3], len(l) > 5 && l[5] == "before")
	case "Close":
		return tree.Close(n[0])
	case "Swap":
		return tree.Swap(n[0], n[1])
	case "Rename":
		return tree.Rename(n[0], n[1])
	case "Resize":
		return tree.Resize(n[0], l[2][0], n[2])
	case "Fit":
		return tree.Fit(n[0], n[1])
	case "Preset":
		return tree.Preset(strings.Join(l[1:], " "))
	}
	t.Fatal(do)
	return 0
}

// calls does each call with a new tree of that body.
func calls(t *testing.T, body string, l []call) {
	t.Helper()
	for _, c := range l {
		tree := treeOf(t, body)
		kept := tree.Clone()
		if e := done(t, tree, c.do); e != c.e {
			t.Errorf("%s of %s: error %d, must be %d", c.do, body, e, c.e)
		}
		if c.e != api.OK {
			c.want = body
		}
		is(t, tree, c.do+" of "+body, c.want)
		is(t, kept, "clone, "+c.do+" of "+body, body)
	}
}

// full is a tree of 32 panes, 1 to 32, beside one another.
func full(t *testing.T) *Tree {
	t.Helper()
	tree, _ := New(250, 120, 1)
	for i := 1; i < 32; i++ {
		if e := tree.Split(i, i+1, true, 250-7*i, false); e != api.OK {
			t.Fatal(i, e)
		}
	}
	return tree
}

func TestExamples(t *testing.T) {
	tree, e := New(80, 24, 1)
	if e != api.OK || tree.Split(1, 2, true, 0, false) != api.OK {
		t.Fatal(e)
	}
	if l := tree.Boxes(); !slices.Equal(l, []api.Box{{Id: 1, W: 40, H: 24}, {Id: 2, X: 41, W: 39, H: 24}}) {
		t.Error(l)
	}
	if e, s := tree.Split(2, 3, false, 5, false), tree.Print(); e != api.OK || s != "babc,80x24,0,0{40x24,0,0,1,39x24,41,0[39x18,41,0,2,39x5,41,19,3]}" {
		t.Error(e, s)
	}
	if e, l := tree.Resize(3, 'U', 2), tree.Boxes(); e != api.OK || !slices.Equal(l[1:], []api.Box{{Id: 2, X: 41, W: 39, H: 16}, {Id: 3, X: 41, Y: 17, W: 39, H: 7}}) {
		t.Error(e, l)
	}
	if e, l := tree.Close(1), tree.Boxes(); e != api.OK || !slices.Equal(l, []api.Box{{Id: 2, W: 80, H: 16}, {Id: 3, Y: 17, W: 80, H: 7}}) {
		t.Error(e, l)
	}
	if a, ab := Sum("a"), Sum("ab"); a != 97 || ab != 32914 {
		t.Error(a, ab)
	}
}

// Y1

func TestNew(t *testing.T) {
	for _, c := range [][3]int{{1, 1, 1}, {250, 120, 1}, {80, 24, 7}, {1, 120, math.MaxInt}, {250, 1, 2}} {
		tree, e := New(c[0], c[1], c[2])
		if e != api.OK || tree == nil {
			t.Errorf("New(%v): error %d", c, e)
			continue
		}
		w, h := tree.Size()
		if l := tree.Boxes(); w != c[0] || h != c[1] || !slices.Equal(l, []api.Box{{Id: c[2], W: w, H: h}}) || !tree.Has(c[2]) || tree.Has(c[2]-1) || tree.Has(0) || tree.Has(-c[2]) {
			t.Errorf("New(%v): %d, %d, %v", c, w, h, l)
		}
	}
}

func TestNewOfWrong(t *testing.T) {
	l := [][3]int{{0, 1, 1}, {251, 1, 1}, {-1, 1, 1}, {1, 0, 1}, {1, 121, 1}, {1, -1, 1}, {1, 1, 0}, {1, 1, -1}, {1, 1, math.MinInt}, {0, 0, 0}, {120, 250, 1}}
	for _, n := range far {
		l = append(l, [3]int{n, 1, 1}, [3]int{1, n, 1})
	}
	for _, c := range l {
		if tree, e := New(c[0], c[1], c[2]); tree != nil || e != api.ErrArg {
			t.Errorf("New(%v): %v, error %d", c, tree, e)
		}
	}
}

const nested = "20x9,0,0{9x9,0,0[9x4,0,0{4x4,0,0,1,4x4,5,0,4},9x4,0,5,2],10x9,10,0,3}"

func TestBoxes(t *testing.T) {
	tree := treeOf(t, nested)
	want := []api.Box{{Id: 1, W: 4, H: 4}, {Id: 4, X: 5, W: 4, H: 4}, {Id: 2, Y: 5, W: 9, H: 4}, {Id: 3, X: 10, W: 10, H: 9}}
	l := tree.Boxes()
	if w, h := tree.Size(); w != 20 || h != 9 || !slices.Equal(l, want) {
		t.Error(w, h, l)
	}
	clear(l)
	if l := tree.Boxes(); !slices.Equal(l, want) {
		t.Error("behind a change of the list:", l)
	}
	for pane := -1; pane < 8; pane++ {
		if tree.Has(pane) != (1 <= pane && pane <= 4) {
			t.Error("Has", pane)
		}
	}
}

// Y2

func TestSplit(t *testing.T) {
	calls(t, "10x5,0,0,7", []call{
		{do: "Split 7 8 beside 0", want: "10x5,0,0{5x5,0,0,7,4x5,6,0,8}"},
		{do: "Split 7 8 beside 0 before", want: "10x5,0,0{4x5,0,0,8,5x5,5,0,7}"},
		{do: "Split 7 8 below 0", want: "10x5,0,0[10x2,0,0,7,10x2,0,3,8]"},
		{do: "Split 7 8 below 0 before", want: "10x5,0,0[10x2,0,0,8,10x2,0,3,7]"},
		{do: "Split 7 8 below 3 before", want: "10x5,0,0[10x3,0,0,8,10x1,0,4,7]"},
		{do: "Split 7 8 beside 1", want: "10x5,0,0{8x5,0,0,7,1x5,9,0,8}"},
		{do: "Split 7 8 beside 8", want: "10x5,0,0{1x5,0,0,7,8x5,2,0,8}"},
		{do: "Split 7 8 beside 8 before", want: "10x5,0,0{8x5,0,0,8,1x5,9,0,7}"},
		{do: "Split 7 6 beside 3", want: "10x5,0,0{6x5,0,0,7,3x5,7,0,6}"},
		{do: "Split 7 8 beside 9", e: api.ErrSize},
		{do: "Split 7 8 below 4", e: api.ErrSize},
		{do: "Split 7 8 below 4 before", e: api.ErrSize},
		{do: "Split 7 8 below 9223372036854775807", e: api.ErrSize},
		{do: "Split 7 8 below -1", e: api.ErrArg},
		{do: "Split 7 7 below 0", e: api.ErrArg},
		{do: "Split 7 0 below 0", e: api.ErrArg},
		{do: "Split 7 -8 below 0", e: api.ErrArg},
		{do: "Split 7 0 below 99", e: api.ErrArg},
		{do: "Split 7 8 below -9223372036854775808", e: api.ErrArg},
		{do: "Split 6 8 below 0", e: api.ErrNone},
		{do: "Split 0 0 below 99", e: api.ErrNone},
		{do: "Split -7 8 below -1", e: api.ErrNone},
	})
	calls(t, "3x4,0,0,1", []call{
		{do: "Split 1 2 beside 0", want: "3x4,0,0{1x4,0,0,1,1x4,2,0,2}"},
		{do: "Split 1 2 beside 1", want: "3x4,0,0{1x4,0,0,1,1x4,2,0,2}"},
		{do: "Split 1 2 beside 2", e: api.ErrSize},
		{do: "Split 1 2 below 0", want: "3x4,0,0[3x2,0,0,1,3x1,0,3,2]"},
		{do: "Split 1 2 below 2", want: "3x4,0,0[3x1,0,0,1,3x2,0,2,2]"},
	})
	calls(t, "2x1,0,0,1", []call{
		{do: "Split 1 2 beside 0", e: api.ErrSize},
		{do: "Split 1 2 beside 1", e: api.ErrSize},
		{do: "Split 1 2 below 0", e: api.ErrSize},
		{do: "Split 1 2 below 1", e: api.ErrSize},
	})
}

func TestSplitOfKids(t *testing.T) {
	calls(t, "10x5,0,0{4x5,0,0,1,5x5,5,0,2}", []call{
		{do: "Split 1 3 beside 0", want: "10x5,0,0{2x5,0,0,1,1x5,3,0,3,5x5,5,0,2}"},
		{do: "Split 1 3 beside 0 before", want: "10x5,0,0{1x5,0,0,3,2x5,2,0,1,5x5,5,0,2}"},
		{do: "Split 2 3 beside 3", want: "10x5,0,0{4x5,0,0,1,1x5,5,0,2,3x5,7,0,3}"},
		{do: "Split 2 3 beside 3 before", want: "10x5,0,0{4x5,0,0,1,3x5,5,0,3,1x5,9,0,2}"},
		{do: "Split 1 3 below 1", want: "10x5,0,0{4x5,0,0[4x3,0,0,1,4x1,0,4,3],5x5,5,0,2}"},
		{do: "Split 2 3 below 0 before", want: "10x5,0,0{4x5,0,0,1,5x5,5,0[5x2,5,0,3,5x2,5,3,2]}"},
		{do: "Split 1 2 beside 0", e: api.ErrArg},
		{do: "Split 1 3 beside 3", e: api.ErrSize},
		{do: "Split 3 4 beside 0", e: api.ErrNone},
	})
	calls(t, nested, []call{
		{do: "Split 4 5 below 0", want: "20x9,0,0{9x9,0,0[9x4,0,0{4x4,0,0,1,4x4,5,0[4x2,5,0,4,4x1,5,3,5]},9x4,0,5,2],10x9,10,0,3}"},
		{do: "Split 2 5 below 0 before", want: "20x9,0,0{9x9,0,0[9x4,0,0{4x4,0,0,1,4x4,5,0,4},9x1,0,5,5,9x2,0,7,2],10x9,10,0,3}"},
		{do: "Split 2 5 beside 0", want: "20x9,0,0{9x9,0,0[9x4,0,0{4x4,0,0,1,4x4,5,0,4},9x4,0,5{4x4,0,5,2,4x4,5,5,5}],10x9,10,0,3}"},
	})
}

func TestSplitOfMany(t *testing.T) {
	tree := full(t)
	was := tree.Print()
	for _, c := range []call{{do: "Split 1 33 below 0", e: api.ErrMany}, {do: "Split 1 33 below 500", e: api.ErrMany}, {do: "Split 1 32 below 0", e: api.ErrArg}, {do: "Split 1 33 below -1", e: api.ErrArg}, {do: "Split 33 34 below 0", e: api.ErrNone}} {
		if e := done(t, tree, c.do); e != c.e || tree.Print() != was {
			t.Errorf("%s: error %d, must be %d: %s", c.do, e, c.e, tree.Print())
		}
	}
	if tree.Close(9) != api.OK || tree.Split(1, 9, false, 0, false) != api.OK || len(tree.Boxes()) != 32 {
		t.Error(tree.Print())
	}
}

// Y3

func TestClose(t *testing.T) {
	calls(t, "10x5,0,0{2x5,0,0,1,1x5,3,0,3,5x5,5,0,2}", []call{
		{do: "Close 1", want: "10x5,0,0{4x5,0,0,3,5x5,5,0,2}"},
		{do: "Close 3", want: "10x5,0,0{4x5,0,0,1,5x5,5,0,2}"},
		{do: "Close 2", want: "10x5,0,0{2x5,0,0,1,7x5,3,0,3}"},
		{do: "Close 4", e: api.ErrNone},
		{do: "Close 0", e: api.ErrNone},
		{do: "Close -1", e: api.ErrNone},
	})
	calls(t, "10x5,0,0[10x1,0,0,1,10x3,0,2,2]", []call{
		{do: "Close 1", want: "10x5,0,0,2"},
		{do: "Close 2", want: "10x5,0,0,1"},
	})
	calls(t, "10x5,0,0,1", []call{
		{do: "Close 1", e: api.ErrState},
		{do: "Close 2", e: api.ErrNone},
	})
	calls(t, nested, []call{
		{do: "Close 1", want: "20x9,0,0{9x9,0,0[9x4,0,0,4,9x4,0,5,2],10x9,10,0,3}"},
		{do: "Close 4", want: "20x9,0,0{9x9,0,0[9x4,0,0,1,9x4,0,5,2],10x9,10,0,3}"},
		{do: "Close 2", want: "20x9,0,0{4x9,0,0,1,4x9,5,0,4,10x9,10,0,3}"},
		{do: "Close 3", want: "20x9,0,0[20x4,0,0{4x4,0,0,1,15x4,5,0,4},20x4,0,5,2]"},
	})
	calls(t, "11x3,0,0{1x3,0,0,1,5x3,2,0[5x1,2,0,2,5x1,2,2{2x1,2,2,3,2x1,5,2,4}],3x3,8,0,5}", []call{
		{do: "Close 1", want: "11x3,0,0{7x3,0,0[7x1,0,0,2,7x1,0,2{2x1,0,2,3,4x1,3,2,4}],3x3,8,0,5}"},
		{do: "Close 2", want: "11x3,0,0{1x3,0,0,1,2x3,2,0,3,2x3,5,0,4,3x3,8,0,5}"},
		{do: "Close 5", want: "11x3,0,0{1x3,0,0,1,9x3,2,0[9x1,2,0,2,9x1,2,2{2x1,2,2,3,6x1,5,2,4}]}"},
	})
}

func TestSwap(t *testing.T) {
	calls(t, nested, []call{
		{do: "Swap 1 3", want: "20x9,0,0{9x9,0,0[9x4,0,0{4x4,0,0,3,4x4,5,0,4},9x4,0,5,2],10x9,10,0,1}"},
		{do: "Swap 4 1", want: "20x9,0,0{9x9,0,0[9x4,0,0{4x4,0,0,4,4x4,5,0,1},9x4,0,5,2],10x9,10,0,3}"},
		{do: "Swap 2 2", want: nested},
		{do: "Swap 1 5", e: api.ErrNone},
		{do: "Swap 5 1", e: api.ErrNone},
		{do: "Swap 0 0", e: api.ErrNone},
		{do: "Swap 1 -1", e: api.ErrNone},
	})
}

func TestRename(t *testing.T) {
	calls(t, nested, []call{
		{do: "Rename 2 5", want: "20x9,0,0{9x9,0,0[9x4,0,0{4x4,0,0,1,4x4,5,0,4},9x4,0,5,5],10x9,10,0,3}"},
		{do: "Rename 1 9223372036854775807", want: "20x9,0,0{9x9,0,0[9x4,0,0{4x4,0,0,9223372036854775807,4x4,5,0,4},9x4,0,5,2],10x9,10,0,3}"},
		{do: "Rename 2 2", e: api.ErrArg},
		{do: "Rename 2 3", e: api.ErrArg},
		{do: "Rename 2 0", e: api.ErrArg},
		{do: "Rename 2 -5", e: api.ErrArg},
		{do: "Rename 5 6", e: api.ErrNone},
		{do: "Rename 5 0", e: api.ErrNone},
		{do: "Rename 0 1", e: api.ErrNone},
	})
}

// Y4

func TestResize(t *testing.T) {
	calls(t, "20x9,0,0{6x9,0,0,1,6x9,7,0,2,6x9,14,0,3}", []call{
		{do: "Resize 1 R 2", want: "20x9,0,0{8x9,0,0,1,4x9,9,0,2,6x9,14,0,3}"},
		{do: "Resize 1 L 2", want: "20x9,0,0{4x9,0,0,1,8x9,5,0,2,6x9,14,0,3}"},
		{do: "Resize 2 R 2", want: "20x9,0,0{6x9,0,0,1,8x9,7,0,2,4x9,16,0,3}"},
		{do: "Resize 2 L 2", want: "20x9,0,0{6x9,0,0,1,4x9,7,0,2,8x9,12,0,3}"},
		{do: "Resize 3 R 2", want: "20x9,0,0{6x9,0,0,1,8x9,7,0,2,4x9,16,0,3}"},
		{do: "Resize 3 L 2", want: "20x9,0,0{6x9,0,0,1,4x9,7,0,2,8x9,12,0,3}"},
		{do: "Resize 1 R 5", want: "20x9,0,0{11x9,0,0,1,1x9,12,0,2,6x9,14,0,3}"},
		{do: "Resize 1 R 6", want: "20x9,0,0{11x9,0,0,1,1x9,12,0,2,6x9,14,0,3}"},
		{do: "Resize 1 R 9223372036854775807", want: "20x9,0,0{11x9,0,0,1,1x9,12,0,2,6x9,14,0,3}"},
		{do: "Resize 3 L 99", want: "20x9,0,0{6x9,0,0,1,1x9,7,0,2,11x9,9,0,3}"},
		{do: "Resize 1 U 1", e: api.ErrState},
		{do: "Resize 1 D 1", e: api.ErrState},
		{do: "Resize 1 U 0", e: api.ErrArg},
		{do: "Resize 1 R 0", e: api.ErrArg},
		{do: "Resize 1 R -1", e: api.ErrArg},
		{do: "Resize 1 R -9223372036854775808", e: api.ErrArg},
		{do: "Resize 1 r 1", e: api.ErrArg},
		{do: "Resize 1 \x00 1", e: api.ErrArg},
		{do: "Resize 1 \xff 1", e: api.ErrArg},
		{do: "Resize 4 R 1", e: api.ErrNone},
		{do: "Resize 4 x 0", e: api.ErrNone},
	})
	calls(t, "9x5,0,0[9x1,0,0,1,9x3,0,2,2]", []call{
		{do: "Resize 1 D 1", want: "9x5,0,0[9x2,0,0,1,9x2,0,3,2]"},
		{do: "Resize 2 D 9", want: "9x5,0,0[9x3,0,0,1,9x1,0,4,2]"},
		{do: "Resize 1 U 1", e: api.ErrSize},
		{do: "Resize 2 U 1", e: api.ErrSize},
		{do: "Resize 2 L 1", e: api.ErrState},
		{do: "Resize 2 R 1", e: api.ErrState},
	})
	calls(t, "9x5,0,0,1", []call{
		{do: "Resize 1 L 1", e: api.ErrState}, {do: "Resize 1 R 1", e: api.ErrState}, {do: "Resize 1 U 1", e: api.ErrState}, {do: "Resize 1 D 1", e: api.ErrState},
	})
}

func TestResizeOfNested(t *testing.T) {
	calls(t, nested, []call{
		{do: "Resize 1 R 9", want: "20x9,0,0{9x9,0,0[9x4,0,0{7x4,0,0,1,1x4,8,0,4},9x4,0,5,2],10x9,10,0,3}"},
		{do: "Resize 4 R 1", want: "20x9,0,0{9x9,0,0[9x4,0,0{5x4,0,0,1,3x4,6,0,4},9x4,0,5,2],10x9,10,0,3}"},
		{do: "Resize 4 L 1", want: "20x9,0,0{9x9,0,0[9x4,0,0{3x4,0,0,1,5x4,4,0,4},9x4,0,5,2],10x9,10,0,3}"},
		{do: "Resize 4 D 2", want: "20x9,0,0{9x9,0,0[9x6,0,0{4x6,0,0,1,4x6,5,0,4},9x2,0,7,2],10x9,10,0,3}"},
		{do: "Resize 1 U 9", want: "20x9,0,0{9x9,0,0[9x1,0,0{4x1,0,0,1,4x1,5,0,4},9x7,0,2,2],10x9,10,0,3}"},
		{do: "Resize 2 R 3", want: "20x9,0,0{12x9,0,0[12x4,0,0{4x4,0,0,1,7x4,5,0,4},12x4,0,5,2],7x9,13,0,3}"},
		{do: "Resize 2 L 2", want: "20x9,0,0{7x9,0,0[7x4,0,0{4x4,0,0,1,2x4,5,0,4},7x4,0,5,2],12x9,8,0,3}"},
		{do: "Resize 3 L 5", want: "20x9,0,0{4x9,0,0[4x4,0,0{2x4,0,0,1,1x4,3,0,4},4x4,0,5,2],15x9,5,0,3}"},
		{do: "Resize 3 L 7", want: "20x9,0,0{3x9,0,0[3x4,0,0{1x4,0,0,1,1x4,2,0,4},3x4,0,5,2],16x9,4,0,3}"},
		{do: "Resize 3 U 1", e: api.ErrState},
	})
}

// Y5

func TestFit(t *testing.T) {
	calls(t, nested, []call{
		{do: "Fit 20 9", want: nested},
		{do: "Fit 25 12", want: "25x12,0,0{9x12,0,0[9x4,0,0{4x4,0,0,1,4x4,5,0,4},9x7,0,5,2],15x12,10,0,3}"},
		{do: "Fit 8 5", want: "8x5,0,0{6x5,0,0[6x3,0,0{4x3,0,0,1,1x3,5,0,4},6x1,0,4,2],1x5,7,0,3}"},
		{do: "Fit 5 3", want: "5x3,0,0{3x3,0,0[3x1,0,0{1x1,0,0,1,1x1,2,0,4},3x1,0,2,2],1x3,4,0,3}"},
		{do: "Fit 30 6", want: "30x6,0,0{9x6,0,0[9x4,0,0{4x4,0,0,1,4x4,5,0,4},9x1,0,5,2],20x6,10,0,3}"},
		{do: "Fit 12 120", want: "12x120,0,0{9x120,0,0[9x4,0,0{4x4,0,0,1,4x4,5,0,4},9x115,0,5,2],2x120,10,0,3}"},
		{do: "Fit 250 9", want: "250x9,0,0{9x9,0,0[9x4,0,0{4x4,0,0,1,4x4,5,0,4},9x4,0,5,2],240x9,10,0,3}"},
		{do: "Fit 4 9", e: api.ErrSize},
		{do: "Fit 20 2", e: api.ErrSize},
		{do: "Fit 250 2", e: api.ErrSize},
		{do: "Fit 4 120", e: api.ErrSize},
		{do: "Fit 1 1", e: api.ErrSize},
		{do: "Fit 251 9", e: api.ErrArg},
		{do: "Fit 20 121", e: api.ErrArg},
		{do: "Fit 0 9", e: api.ErrArg},
		{do: "Fit 20 0", e: api.ErrArg},
		{do: "Fit -1 -1", e: api.ErrArg},
		{do: "Fit 1 121", e: api.ErrArg},
	})
	calls(t, "7x5,0,0,1", []call{{do: "Fit 1 1", want: "1x1,0,0,1"}, {do: "Fit 250 120", want: "250x120,0,0,1"}, {do: "Fit 7 9223372036854775807", e: api.ErrArg}, {do: "Fit -9223372036854775808 5", e: api.ErrArg}})
}

// Y6

func TestPreset(t *testing.T) {
	calls(t, "20x9,0,0{6x9,0,0,3,6x9,7,0,1,6x9,14,0,2}", []call{
		{do: "Preset even-horizontal", want: "20x9,0,0{6x9,0,0,3,6x9,7,0,1,6x9,14,0,2}"},
		{do: "Preset even-vertical", want: "20x9,0,0[20x3,0,0,3,20x2,0,4,1,20x2,0,7,2]"},
		{do: "Preset main-horizontal", want: "20x9,0,0[20x4,0,0,3,20x4,0,5{10x4,0,5,1,9x4,11,5,2}]"},
		{do: "Preset main-vertical", want: "20x9,0,0{10x9,0,0,3,9x9,11,0[9x4,11,0,1,9x4,11,5,2]}"},
		{do: "Preset tiled", want: "20x9,0,0[20x4,0,0{10x4,0,0,3,9x4,11,0,1},20x4,0,5,2]"},
		{do: "Preset ", e: api.ErrName},
		{do: "Preset Tiled", e: api.ErrName},
		{do: "Preset tiled ", e: api.ErrName},
		{do: "Preset even", e: api.ErrName},
		{do: "Preset main-horizontal\x00", e: api.ErrName},
		{do: "Preset " + strings.Repeat("tiled", 1000), e: api.ErrName},
	})
	calls(t, "22x10,0,0[22x1,0,0{4x1,0,0,1,17x1,5,0,2},22x8,0,2,3]", []call{
		{do: "Preset even-horizontal", want: "22x10,0,0{7x10,0,0,1,7x10,8,0,2,6x10,16,0,3}"},
		{do: "Preset even-vertical", want: "22x10,0,0[22x3,0,0,1,22x3,0,4,2,22x2,0,8,3]"},
		{do: "Preset main-horizontal", want: "22x10,0,0[22x5,0,0,1,22x4,0,6{11x4,0,6,2,10x4,12,6,3}]"},
		{do: "Preset main-vertical", want: "22x10,0,0{11x10,0,0,1,10x10,12,0[10x5,12,0,2,10x4,12,6,3]}"},
		{do: "Preset tiled", want: "22x10,0,0[22x5,0,0{11x5,0,0,1,10x5,12,0,2},22x4,0,6,3]"},
	})
}

func TestPresetOfFew(t *testing.T) {
	calls(t, "1x1,0,0,4", []call{
		{do: "Preset even-horizontal", want: "1x1,0,0,4"}, {do: "Preset even-vertical", want: "1x1,0,0,4"}, {do: "Preset main-horizontal", want: "1x1,0,0,4"}, {do: "Preset main-vertical", want: "1x1,0,0,4"}, {do: "Preset tiled", want: "1x1,0,0,4"}, {do: "Preset none", e: api.ErrName},
	})
	calls(t, "20x9,0,0{10x9,0,0,1,9x9,11,0,2}", []call{
		{do: "Preset even-vertical", want: "20x9,0,0[20x4,0,0,1,20x4,0,5,2]"},
		{do: "Preset main-horizontal", want: "20x9,0,0[20x4,0,0,1,20x4,0,5,2]"},
		{do: "Preset main-vertical", want: "20x9,0,0{10x9,0,0,1,9x9,11,0,2}"},
		{do: "Preset tiled", want: "20x9,0,0{10x9,0,0,1,9x9,11,0,2}"},
	})
}

func TestPresetOfMore(t *testing.T) {
	for n, want := range map[int]string{
		4: "20x9,0,0[20x4,0,0{10x4,0,0,1,9x4,11,0,2},20x4,0,5{10x4,0,5,3,9x4,11,5,4}]",
		5: "20x9,0,0[20x4,0,0{6x4,0,0,1,6x4,7,0,2,6x4,14,0,3},20x4,0,5{10x4,0,5,4,9x4,11,5,5}]",
		7: "20x9,0,0[20x3,0,0{6x3,0,0,1,6x3,7,0,2,6x3,14,0,3},20x2,0,4{6x2,0,4,4,6x2,7,4,5,6x2,14,4,6},20x2,0,7,7]",
	} {
		tree, _ := New(250, 9, 1)
		for i := 2; i <= n; i++ {
			tree.Split(i-1, i, true, 0, false)
		}
		if f, p := tree.Fit(20, 9), tree.Preset("tiled"); f != api.OK || p != api.OK {
			t.Error(n, f, p)
		}
		is(t, tree, fmt.Sprint("tiled of ", n), want)
	}
}

func TestPresetWithoutRoom(t *testing.T) {
	calls(t, "4x5,0,0[4x1,0,0,1,4x1,0,2,2,4x1,0,4,3]", []call{
		{do: "Preset even-horizontal", e: api.ErrSize},
		{do: "Preset even-vertical", want: "4x5,0,0[4x1,0,0,1,4x1,0,2,2,4x1,0,4,3]"},
		{do: "Preset main-horizontal", want: "4x5,0,0[4x2,0,0,1,4x2,0,3{2x2,0,3,2,1x2,3,3,3}]"},
		{do: "Preset tiled", want: "4x5,0,0[4x2,0,0{2x2,0,0,1,1x2,3,0,2},4x2,0,3,3]"},
		{do: "Preset none", e: api.ErrName},
	})
	calls(t, "5x4,0,0{1x4,0,0,1,1x4,2,0,2,1x4,4,0,3}", []call{
		{do: "Preset even-vertical", e: api.ErrSize},
		{do: "Preset even-horizontal", want: "5x4,0,0{1x4,0,0,1,1x4,2,0,2,1x4,4,0,3}"},
		{do: "Preset main-horizontal", want: "5x4,0,0[5x2,0,0,1,5x1,0,3{2x1,0,3,2,2x1,3,3,3}]"},
		{do: "Preset main-vertical", want: "5x4,0,0{2x4,0,0,1,2x4,3,0[2x2,3,0,2,2x1,3,3,3]}"},
	})
	for _, body := range []string{"1x5,0,0[1x1,0,0,1,1x1,0,2,2,1x1,0,4,3]", "2x5,0,0[2x1,0,0,1,2x1,0,2,2,2x1,0,4,3]"} {
		calls(t, body, []call{{do: "Preset even-horizontal", e: api.ErrSize}, {do: "Preset main-horizontal", e: api.ErrSize}, {do: "Preset main-vertical", e: api.ErrSize}, {do: "Preset tiled", e: api.ErrSize}})
	}
	for _, body := range []string{"5x1,0,0{1x1,0,0,1,1x1,2,0,2,1x1,4,0,3}", "5x2,0,0{1x2,0,0,1,1x2,2,0,2,1x2,4,0,3}"} {
		calls(t, body, []call{{do: "Preset even-vertical", e: api.ErrSize}, {do: "Preset main-horizontal", e: api.ErrSize}, {do: "Preset main-vertical", e: api.ErrSize}, {do: "Preset tiled", e: api.ErrSize}})
	}
	calls(t, "3x3,0,0{1x3,0,0,1,1x3,2,0,2}", []call{
		{do: "Preset main-horizontal", want: "3x3,0,0[3x1,0,0,1,3x1,0,2,2]"}, {do: "Preset main-vertical", want: "3x3,0,0{1x3,0,0,1,1x3,2,0,2}"},
	})
}

// Y7

func TestSum(t *testing.T) {
	for s, want := range map[string]int{"": 0, "\x00": 0, "a": 97, "ab": 32914, "\x01\xff": 33023, "\xff\xff": 33150, "\x02\x00": 1, "\x01\x00\x00": 16384} {
		if got := Sum(s); got != want {
			t.Errorf("Sum(%q): %d, must be %d", s, got, want)
		}
	}
	r := rand.New(rand.NewSource(1))
	for range 2000 {
		b := make([]byte, r.Intn(300))
		for i := range b {
			b[i] = byte(r.Intn(256) | r.Intn(2)*255)
		}
		if got, want := fmt.Sprintf("%04x", Sum(string(b))), sum(string(b)); got != want {
			t.Errorf("Sum(%q): %s, must be %s", b, got, want)
		}
	}
}

func TestPrint(t *testing.T) {
	small := 0
	for w := 1; w <= 250; w++ {
		for h := 1; h <= 120; h++ {
			tree, _ := New(w, h, w*h)
			body := fmt.Sprintf("%dx%d,0,0,%d", w, h, w*h)
			if sum(body)[0] == '0' {
				small++
			}
			if e := tree.Apply(signed(body)); e != api.OK {
				t.Errorf("Apply of %s: error %d", signed(body), e)
			}
			is(t, tree, body, body)
		}
	}
	if small == 0 {
		t.Error("no sum began with a nought")
	}
}

// Y8

func TestApply(t *testing.T) {
	tree := treeOf(t, "20x9,0,0{6x9,0,0,3,6x9,7,0,1,6x9,14,0,2}")
	for body, want := range map[string]string{
		"20x9,0,0[20x3,0,0,3,20x2,0,4,1,20x2,0,7,2]":                  "20x9,0,0[20x3,0,0,3,20x2,0,4,1,20x2,0,7,2]",
		"9x5,0,0{7x5,0,0[7x1,0,0,0,7x3,0,2,0],1x5,8,0,0}":             "9x5,0,0{7x5,0,0[7x1,0,0,3,7x3,0,2,1],1x5,8,0,2}",
		"5x1,0,0{1x1,0,0,1,1x1,2,0,2,1x1,4,0,3}":                      "5x1,0,0{1x1,0,0,3,1x1,2,0,1,1x1,4,0,2}",
		"1x5,0,0[1x1,0,0,999999999,1x1,0,2,7,1x1,0,4,100]":            "1x5,0,0[1x1,0,0,3,1x1,0,2,1,1x1,0,4,2]",
		"250x120,0,0[250x1,0,0{1x1,0,0,5,248x1,2,0,5},250x118,0,2,5]": "250x120,0,0[250x1,0,0{1x1,0,0,3,248x1,2,0,1},250x118,0,2,2]",
	} {
		if e := tree.Apply(signed(body)); e != api.OK {
			t.Errorf("%s: error %d", body, e)
		}
		is(t, tree, body, want)
		if e := tree.Apply(tree.Print()); e != api.OK {
			t.Errorf("%s: its own: error %d", body, e)
		}
		is(t, tree, body, want)
	}
}

// refused holds an Apply to be refused, and to change nothing.
func refused(t *testing.T, tree *Tree, s string, want api.Errno) {
	t.Helper()
	was := tree.Print()
	if e := tree.Apply(s); e != want || tree.Print() != was {
		t.Errorf("Apply(%.100q): error %d, must be %d: %s, was %s", s, e, want, tree.Print(), was)
	}
}

func TestApplyOfWrongBodies(t *testing.T) {
	tree := treeOf(t, "9x5,0,0{4x5,0,0,1,4x5,5,0,2}")
	for _, body := range []string{
		"", ",", "9", "9x5", "9x5,0", "9x5,0,0", "9x5,0,0,", "9x5,0,0,1,", "9x5,0,0,1 ", " 9x5,0,0,1", "9X5,0,0,1", "9x5,0,0,-1", "9x5,0,0,+1", "+9x5,0,0,1", "9x5,0,0,01", "09x5,0,0,1", "9x05,0,0,1", "9x5,00,0,1", "9x5,0,00,1", "9x5,0,0,00", "9x5,0,0,1000000000", "9x5,0,0,99999999999999999999999999",
		"9x5;0,0,1", "9x5,0;0,1", "9x5,0,0;1", "9x5,1,0,1", "9x5,0,1,1", "0x5,0,0,1", "9x0,0,0,1", "251x5,0,0,1", "9x121,0,0,1", "1000000000x5,0,0,1", "999999999x999999999,0,0,1", "9x5,0,0,1,2", "9x5,0,0,1\x00", "9x5,0,0,\xff",
		"9x5,0,0{}", "9x5,0,0[]", "9x5,0,0{", "9x5,0,0[", "9x5,0,0,{", "9x5,0,0{4x5,0,0,1", "9x5,0,0{4x5,0,0,1,", "9x5,0,0{4x5,0,0,1,4x5,5,0,2", "9x5,0,0{4x5,0,0,1,4x5,5,0,2]", "9x5,0,0[4x5,0,0,1,4x5,5,0,2}", "9x5,0,0[4x5,0,0,1,4x5,5,0,2]", "9x5,0,0{4x5,0,0,1,4x5,5,0,2}}", "9x5,0,0{4x5,0,0,1,4x5,5,0,2},", "9x5,0,0{4x5,0,0,1,4x5,5,0,2},1", "9x5,0,0{,4x5,0,0,1,4x5,5,0,2}", "9x5,0,0{4x5,0,0,1,4x5,5,0,2,}", "9x5,0,0{4x5,0,0,1,,4x5,5,0,2}", "9x5,0,0{4x5,0,0,14x5,5,0,2}", "9x5,0,0,{4x5,0,0,1,4x5,5,0,2}", "(9x5,0,0,1)", "{9x5,0,0,1}",
		"9x5,0,0{9x5,0,0,1}", "9x5,0,0[9x5,0,0,1]", "9x5,0,0{9x5,0,0[9x2,0,0,1,9x2,0,3,2]}", // one kid
		"9x5,0,0{4x5,0,0,1,4x5,4,0,2}", "9x5,0,0{4x5,0,0,1,4x5,5,1,2}", "9x5,0,0{4x5,1,0,1,4x5,5,0,2}", "9x5,1,0{4x5,1,0,1,4x5,6,0,2}", "9x5,0,1{4x5,0,1,1,4x5,5,1,2}", // places
		"9x5,0,0{4x5,0,0,1,5x5,5,0,2}", "9x5,0,0{4x5,0,0,1,3x5,5,0,2}", "9x5,0,0{4x5,0,0,1,4x4,5,0,2}", "9x5,0,0{4x4,0,0,1,4x5,5,0,2}", "9x5,0,0{4x4,0,0,1,4x4,5,0,2}", "9x5,0,0{4x6,0,0,1,4x6,5,0,2}", "10x5,0,0{4x5,0,0,1,4x5,5,0,2}", "8x5,0,0{4x5,0,0,1,4x5,5,0,2}", "9x6,0,0{4x5,0,0,1,4x5,5,0,2}", // sizes
		"9x5,0,0[9x2,0,0,1,9x3,0,3,2]", "9x5,0,0[9x2,0,0,1,8x2,0,3,2]", "9x5,0,0[8x2,0,0,1,9x2,0,3,2]", "9x5,0,0[8x2,0,0,1,8x2,0,3,2]", "9x5,0,0[10x2,0,0,1,10x2,0,3,2]",
		"9x5,0,0{0x5,0,0,1,8x5,1,0,2}", "9x5,0,0{8x5,0,0,1,0x5,9,0,2}", "9x4,0,0[9x0,0,0,1,9x3,0,1,2]", "251x1,0,0{125x1,0,0,1,125x1,126,0,2}", "1x121,0,0[1x60,0,0,1,1x60,0,61,2]",
		"9x5,0,0{3x5,0,0,1,5x5,4,0{2x5,4,0,2,2x5,7,0,3}}", "9x5,0,0[9x2,0,0,1,9x2,0,3[9x0,0,3,2,9x1,0,4,3]]", "9x7,0,0[9x3,0,0[9x1,0,0,1,9x1,0,2,2],9x3,0,4,3]", // a kid that goes the same way
		"9x5,0,0{4x5,0,0[4x2,0,0,1,4x2,0,3,2],4x5,5,0,3", "9x5,0,0{4x5,0,0[4x2,0,0,1,4x2,0,3,2},4x5,5,0,3]", "9x5,0,0{4x5,0,0[4x2,0,0,1,4x1,0,3,2],4x5,5,0,3}", "9x5,0,0{4x5,0,0[4x2,0,0,1,3x2,0,3,2],4x5,5,0,3}", "9x5,0,0{4x5,0,0[4x2,0,0,1,4x2,0,2,2],4x5,5,0,3}",
		strings.Repeat("{", 4091), strings.Repeat("1x1,0,0{", 511), strings.Repeat("1x1,0,0[1x1,0,0{", 255), strings.Repeat("9", 4091), strings.Repeat("1x1,0,0,1,", 409),
	} {
		refused(t, tree, signed(body), api.ErrForm)
	}
}

func TestApplyOfWrongSums(t *testing.T) {
	tree := treeOf(t, "9x5,0,0{4x5,0,0,1,4x5,5,0,2}")
	right := tree.Print()
	for i := range 4 {
		for _, d := range "0123456789abcdef" {
			if s := right[:i] + string(d) + right[i+1:]; s != right {
				refused(t, tree, s, api.ErrSum)
			}
		}
		for _, d := range "ABCDEFGg/:`, \x00\u0661" {
			refused(t, tree, right[:i]+string(d)+right[i+1:], api.ErrForm)
		}
	}
	upper := strings.ToUpper(right[:4]) + right[4:]
	if upper == right {
		t.Fatal(right, "has no letter")
	}
	for _, s := range []string{"", ",", right[:1], right[:4], right[5:], right[1:], "0" + right, right[:4] + ";" + right[5:], right[:4] + right[5:], upper, " " + right, "0000", "0000" + right[5:], "12345,9x5,0,0,1"} {
		refused(t, tree, s, api.ErrForm)
	}
	for _, s := range []string{right + " ", right + "\n", right[:len(right)-1], right[:5], "0001,", "ffff,x", "0000,9x5,0,0,1", "0000,,", "babc,80x24,0,0{40x24,0,0,1,39x24,41,0[39x18,41,0,2,39x5,41,19,4]}"} {
		refused(t, tree, s, api.ErrSum)
	}
	refused(t, tree, "0000,", api.ErrForm)
}

func TestApplyOfOthers(t *testing.T) {
	tree := treeOf(t, "9x5,0,0{4x5,0,0,1,4x5,5,0,2}")
	for _, body := range []string{"9x5,0,0,1", nested, "9x5,0,0{1x5,0,0,1,1x5,2,0,1,5x5,4,0,1}"} {
		refused(t, tree, signed(body), api.ErrMany)
	}
	one := treeOf(t, "9x5,0,0,1")
	refused(t, one, signed("9x5,0,0{4x5,0,0,1,4x5,5,0,2}"), api.ErrMany)
	most := full(t)
	was := most.Print()
	if e := most.Apply(was); e != api.OK || most.Print() != was {
		t.Error(e, most.Print())
	}
}

// sheet is a body of so many bytes: leaves of one column and one row, beside one another in rows.
func sheet(size int) string {
	const across, down = 25, 10
	for digits := 1; digits < 9; digits++ {
		for long := range across*down + 1 {
			var lines []string
			for y := range down {
				var leaves []string
				for x := range across {
					n := digits
					if y*across+x < long {
						n++
					}
					leaves = append(leaves, fmt.Sprintf("1x1,%d,%d,%s", 2*x, 2*y, strings.Repeat("7", n)))
				}
				lines = append(lines, fmt.Sprintf("%dx1,0,%d{%s}", 2*across-1, 2*y, strings.Join(leaves, ",")))
			}
			if s := fmt.Sprintf("%dx%d,0,0[%s]", 2*across-1, 2*down-1, strings.Join(lines, ",")); len(s) == size {
				return s
			}
		}
	}
	return ""
}

func TestApplyOfLong(t *testing.T) {
	tree := treeOf(t, "9x5,0,0{4x5,0,0,1,4x5,5,0,2}")
	longest, longer := signed(sheet(4091)), signed(sheet(4092))
	if len(longest) != 4096 || len(longer) != 4097 {
		t.Fatal(len(longest), len(longer))
	}
	refused(t, tree, longest, api.ErrMany)
	refused(t, tree, longer, api.ErrLong)
	refused(t, tree, strings.Repeat("x", 4096), api.ErrForm)
	refused(t, tree, strings.Repeat("x", 4097), api.ErrLong)
	refused(t, tree, "0000,"+strings.Repeat("x", 4091), api.ErrSum)
	refused(t, tree, "0000,"+strings.Repeat("x", 4092), api.ErrLong)
	refused(t, tree, strings.Repeat("x", 1<<20), api.ErrLong)
}

// Y9

func TestBeside(t *testing.T) {
	for body, l := range map[string][]string{
		nested: {"1 R 4", "1 D 2", "1 L 0", "1 U 0", "4 L 1", "4 R 3", "4 D 2", "4 U 0", "2 U 1", "2 R 3", "2 L 0", "2 D 0", "3 L 4", "3 R 0", "3 U 0", "3 D 0", "5 L 0", "0 R 0", "-1 L 0", "1 r 0", "1 \x00 0", "4 l 0", "1 X 0"},
		"20x9,0,0[20x4,0,0{4x4,0,0,1,15x4,5,0,2},20x4,0,5{3x4,0,5,3,16x4,4,5,4}]": {"1 R 2", "2 L 1", "1 D 3", "2 D 4", "3 U 1", "4 U 2", "3 R 4", "4 L 3"},
		"9x20,0,0{4x20,0,0[4x4,0,0,1,4x15,0,5,2],4x20,5,0[4x3,5,0,3,4x16,5,4,4]}": {"1 D 2", "2 U 1", "1 R 3", "2 R 4", "3 L 1", "4 L 2", "3 D 4", "4 U 3"},
		"20x9,0,0[20x4,0,0{5x4,0,0,1,14x4,6,0,2},20x4,0,5{3x4,0,5,3,16x4,4,5,4}]": {"4 U 1", "1 D 3", "2 D 4"},
		"20x9,0,0[20x4,0,0{3x4,0,0,9,16x4,4,0,8},20x4,0,5{5x4,0,5,7,14x4,6,5,6}]": {"7 U 9", "6 U 8", "8 D 7", "9 D 7"},
		"7x5,0,0,1": {"1 L 0", "1 R 0", "1 U 0", "1 D 0"},
	} {
		tree := treeOf(t, body)
		for _, c := range l {
			var pane, want int
			var way byte
			fmt.Sscanf(c, "%d %c %d", &pane, &way, &want)
			if got := tree.Beside(pane, way); got != want {
				t.Errorf("Beside(%d, %q) of %s: %d, must be %d", pane, way, body, got, want)
			}
		}
		is(t, tree, "behind Beside", body)
	}
}

func TestClone(t *testing.T) {
	tree := treeOf(t, nested)
	for _, do := range []string{"Split 1 9 beside 0", "Split 2 9 below 0", "Close 2", "Close 3", "Swap 1 2", "Rename 1 9", "Resize 1 R 1", "Resize 2 R 1", "Fit 30 20", "Preset tiled"} {
		own := tree.Clone()
		is(t, own, "Clone", nested)
		if e := done(t, own, do); e != api.OK {
			t.Error(do, e)
		}
		is(t, tree, do+" of a clone", nested)
		other := tree.Clone()
		done(t, tree, do)
		if own.Print() != tree.Print() {
			t.Errorf("%s: of a clone %s, of the tree %s", do, own.Print(), tree.Print())
		}
		is(t, other, "a clone behind "+do, nested)
		tree = other
	}
}

// Y11

// TestSplitThenClose: the boxes are as they were, where the new one stands behind the old one, or first.
func TestSplitThenClose(t *testing.T) {
	for _, body := range []string{nested, "80x24,0,0,1", "22x10,0,0[22x1,0,0{4x1,0,0,1,17x1,5,0,2},22x8,0,2,3]", "20x9,0,0{6x9,0,0,3,6x9,7,0,1,6x9,14,0,2}"} {
		for _, b := range treeOf(t, body).Boxes() {
			for i := range 8 {
				beside, size, before := i&1 > 0, i&2/2, i&4 > 0
				tree := treeOf(t, body)
				was := tree.Boxes()
				if tree.Split(b.Id, 99, beside, size, before) != api.OK {
					continue
				}
				way := byte('U')
				if beside {
					way = 'L'
				}
				if before && tree.Beside(99, way) != 0 {
					continue // what is ahead of the new one takes its room
				}
				if e := tree.Close(99); e != api.OK || !slices.Equal(tree.Boxes(), was) {
					t.Errorf("%s: Split(%d, 99, %v, %d, %v), then Close: error %d, %v", body, b.Id, beside, size, before, e, tree.Boxes())
				}
				is(t, tree, "behind Split and Close", body)
			}
		}
	}
}
