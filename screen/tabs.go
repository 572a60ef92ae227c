package screen

const tabEvery = 8

// tabStops is those of so many columns: as they were in the first ones, at each eighth in new ones.
func tabStops(were []bool, cols int) []bool {
	out := make([]bool, cols)
	for x := copy(out, were); x < cols; x++ {
		out[x] = x > 0 && x%tabEvery == 0
	}
	return out
}

// tab goes to the next tab stop, or to the last column.
func (s *Screen) tab() {
	for x := s.at.X + 1; x < len(s.tabs); x++ {
		if s.tabs[x] {
			s.at.X = x
			return
		}
	}
	s.at.X = len(s.tabs) - 1
}

// backTab goes to the tab stop ahead, or to the first column.
func (s *Screen) backTab() {
	for x := s.at.X - 1; x > 0; x-- {
		if s.tabs[x] {
			s.at.X = x
			return
		}
	}
	s.at.X = 0
}

func (d *doing) forwardTabs() { d.repeat(d.tab) }

func (d *doing) backTabs() { d.repeat(d.backTab) }

// repeat does a step so often as the sequence says, or until it leads nowhere any more.
func (d *doing) repeat(step func()) {
	d.wait = false
	for range d.count() {
		saved := d.state
		step()
		if d.state == saved {
			return
		}
	}
}

func (d *doing) clearTabs() {
	switch d.param(0, 0) {
	case 0:
		d.tabs[d.at.X] = false
	case 3:
		clear(d.tabs)
	}
}
