package screen

import (
	"mullion/api"
	"mullion/grid"
)

// modesNow is all that are on.
func (s *Screen) modesNow() int {
	modes := s.modes
	if s.origin {
		modes |= api.ModeOrigin
	}
	if s.other != nil {
		modes |= api.ModeAlt
	}
	return modes
}

func (s *Screen) turn(modes int, on bool) {
	s.modes &^= modes
	if on {
		s.modes |= modes
	}
}

// turnsOn tells if the action's modes are to be on.
func (d *doing) turnsOn() bool { return d.Byte == 'h' }

func (d *doing) ansiModes() {
	for _, p := range d.Params {
		switch p {
		case 4:
			d.turn(api.ModeInsert, d.turnsOn())
		case 20:
			d.turn(api.ModeNew, d.turnsOn())
		}
	}
}

func (d *doing) privateModes() {
	for _, p := range d.Params {
		d.privateMode(p, d.turnsOn())
	}
}

func (s *Screen) privateMode(p int, on bool) {
	switch p {
	case 1:
		s.turn(api.ModeKeys, on)
	case 6:
		s.origin = on
		s.goToLine(0, 0)
	case 7:
		s.turn(api.ModeWrap, on)
		s.wait = s.wait && on
	case 25:
		s.turn(api.ModeCursor, on)
	case 47, 1047:
		s.show(on)
	case 1048:
		s.saveOrRestore(on)
	case 1049:
		s.saveAndShow(on)
	case 1000:
		s.turn(api.ModeMouse, on)
	case 2004:
		s.turn(api.ModeBracket, on)
	}
}

// show shows the other screen, a new one, or main.
func (s *Screen) show(other bool) {
	if other == (s.other != nil) {
		return
	}
	if other {
		s.other, _ = grid.New(s.main.Cols(), s.main.Rows(), 0)
	} else {
		s.other = nil
	}
	s.scrollAll()
	s.wait = false
}

func (s *Screen) saveOrRestore(save bool) {
	if save {
		s.save()
	} else {
		s.restore()
	}
}

// saveAndShow does both so that main's state is what is saved, or brought back.
func (s *Screen) saveAndShow(other bool) {
	if other {
		s.save()
		s.show(true)
	} else {
		s.show(false)
		s.restore()
	}
}

func (d *doing) softReset() {
	at := d.at
	d.state = newState()
	d.at = at
	*d.savedHere() = newState()
	d.scrollAll()
	d.turn(api.ModeInsert|api.ModeKeys|api.ModeKeypad, false)
	d.turn(api.ModeCursor|api.ModeWrap, true)
}
