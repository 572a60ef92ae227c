package screen

func (d *doing) insertCells() {
	d.wait = false
	d.shown().Insert(d.at.X, d.at.Y, d.count(), d.blank())
}

func (d *doing) deleteCells() {
	d.wait = false
	d.shown().Delete(d.at.X, d.at.Y, d.count(), d.blank())
}

func (d *doing) eraseCells() {
	d.wait = false
	d.shown().Erase(d.at.X, d.at.Y, d.count(), d.blank())
}

func (d *doing) eraseInRow() {
	d.wait = false
	switch d.param(0, 0) {
	case 0:
		d.layToEnd()
	case 1:
		d.layToPlace()
	case 2:
		d.layRows(d.at.Y, d.at.Y+1)
	}
}

func (d *doing) eraseRows() {
	d.wait = false
	switch d.param(0, 0) {
	case 0:
		d.layToEnd()
		d.layRows(d.at.Y+1, d.main.Rows())
	case 1:
		d.layToPlace()
		d.layRows(0, d.at.Y)
	case 2:
		d.layRows(0, d.main.Rows())
	case 3:
		d.main.Clear()
	}
}

// layToEnd lays blanks from the place on; the row ends there.
func (s *Screen) layToEnd() {
	s.shown().Erase(s.at.X, s.at.Y, s.main.Cols(), s.blank())
	s.shown().Wrap(s.at.Y, false)
}

// layToPlace lays blanks up to the place, and on it.
func (s *Screen) layToPlace() { s.shown().Erase(0, s.at.Y, s.at.X+1, s.blank()) }

// layRows lays blanks over the rows from first on, up to end, which is not among them.
func (s *Screen) layRows(first, end int) {
	for y := first; y < end; y++ {
		s.shown().Erase(0, y, s.main.Cols(), s.blank())
		s.shown().Wrap(y, false)
	}
}

func (d *doing) insertRows() {
	if d.inRegion() {
		d.shown().Down(d.at.Y, d.bottom, d.count(), d.blank())
		d.toBegin()
	}
}

func (d *doing) deleteRows() {
	if d.inRegion() {
		d.shown().Up(d.at.Y, d.bottom, d.count(), d.blank(), false)
		d.toBegin()
	}
}

func (s *Screen) inRegion() bool { return s.top <= s.at.Y && s.at.Y <= s.bottom }

func (s *Screen) toBegin() { s.goTo(0, s.at.Y) }

func (d *doing) scrollUpBy() { d.scrollUp(d.count()) }

func (d *doing) scrollDownBy() { d.scrollDown(d.count()) }

// printAgain puts the last rune anew; 0, which stands for none, takes no columns.
func (d *doing) printAgain() {
	for range d.count() {
		d.print(d.last)
	}
}
