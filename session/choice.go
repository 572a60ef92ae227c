package session

import "slices"

// choice is which of several is chosen, and which others were ahead of it, the latest first.
type choice struct {
	chosen int
	last   []int
}

func (c *choice) choose(one int) {
	if one == c.chosen {
		return
	}
	c.forget(one)
	c.last = slices.Insert(c.last, 0, c.chosen)
	c.chosen = one
}

func (c *choice) forget(one int) {
	c.last = slices.DeleteFunc(c.last, func(other int) bool { return other == one })
}

// lose lets one go; heir is chosen then, if that one was, and none was ahead of it.
func (c *choice) lose(one, heir int) {
	c.forget(one)
	if c.chosen != one {
		return
	}
	c.chosen = heir
	if len(c.last) > 0 {
		c.chosen = c.last[0]
		c.last = c.last[1:]
	}
}

// rename lets another one stand where one stood.
func (c *choice) rename(one, other int) {
	if c.chosen == one {
		c.chosen = other
	}
	if at := slices.Index(c.last, one); at >= 0 {
		c.last[at] = other
	}
}

// isOf tells whether all of it is among those, each once.
func (c *choice) isOf(those []int) bool {
	all := slices.Sorted(slices.Values(append([]int{c.chosen}, c.last...)))
	return len(slices.Compact(all)) == len(c.last)+1 && !slices.ContainsFunc(all, func(one int) bool { return !slices.Contains(those, one) })
}
