package screen

import "strconv"

// sequence does what a CSI says.
func (d *doing) sequence() {
	if do := d.csi(); do != nil {
		do()
	}
}

// csi is what a CSI does; nil: nothing.
func (d *doing) csi() func() {
	switch d.Inter {
	case "":
		if move := d.csiMove(); move != nil {
			return move
		}
		if change := d.csiChange(); change != nil {
			return change
		}
		return d.csiOther()
	case "?":
		if d.Byte == 'h' || d.Byte == 'l' {
			return d.privateModes
		}
	case "!":
		if d.Byte == 'p' {
			return d.softReset
		}
	case ">":
		if d.Byte == 'c' {
			return d.tellWhichItIs2
		}
	}
	return nil
}

// csiMove is what goes to another place.
func (d *doing) csiMove() func() {
	switch d.Byte {
	case 'A':
		return d.up
	case 'B', 'e':
		return d.down
	case 'C', 'a':
		return d.right
	case 'D':
		return d.left
	case 'E':
		return d.downToBegin
	case 'F':
		return d.upToBegin
	case 'G', '`':
		return d.toColumn
	case 'd':
		return d.toRow
	case 'H', 'f':
		return d.toPlace
	case 'I':
		return d.forwardTabs
	case 'Z':
		return d.backTabs
	case 's':
		return d.save
	case 'u':
		return d.restore
	}
	return nil
}

// csiChange is what changes cells.
func (d *doing) csiChange() func() {
	switch d.Byte {
	case '@':
		return d.insertCells
	case 'P':
		return d.deleteCells
	case 'X':
		return d.eraseCells
	case 'K':
		return d.eraseInRow
	case 'J':
		return d.eraseRows
	case 'L':
		return d.insertRows
	case 'M':
		return d.deleteRows
	case 'S':
		return d.scrollUpBy
	case 'T':
		return d.scrollDownBy
	case 'b':
		return d.printAgain
	}
	return nil
}

// csiOther is what tells, or sets, something.
func (d *doing) csiOther() func() {
	switch d.Byte {
	case 'c':
		return d.tellWhichItIs
	case 'n':
		return d.tellStatus
	case 'g':
		return d.clearTabs
	case 'h', 'l':
		return d.ansiModes
	case 'm':
		return d.turnPen
	case 'r':
		return d.setRegion
	}
	return nil
}

func (d *doing) up() { d.goTo(d.at.X, d.rowAbove()) }

func (d *doing) down() { d.goTo(d.at.X, d.rowBelow()) }

func (d *doing) upToBegin() { d.goTo(0, d.rowAbove()) }

func (d *doing) downToBegin() { d.goTo(0, d.rowBelow()) }

// rowAbove is so many rows up: out of the region only for what is above it already.
func (d *doing) rowAbove() int {
	y := d.at.Y - d.count()
	if d.at.Y < d.top {
		return y
	}
	return max(y, d.top)
}

// rowBelow is so many rows down, likewise.
func (d *doing) rowBelow() int {
	y := d.at.Y + d.count()
	if d.at.Y > d.bottom {
		return y
	}
	return min(y, d.bottom)
}

func (d *doing) right() { d.goTo(d.at.X+d.count(), d.at.Y) }

func (d *doing) left() { d.goTo(d.at.X-d.count(), d.at.Y) }

func (d *doing) toColumn() { d.goTo(d.count()-1, d.at.Y) }

func (d *doing) toRow() { d.goToLine(d.at.X, d.count()-1) }

func (d *doing) toPlace() { d.goToLine(d.ordinal(1)-1, d.ordinal(0)-1) }

func (d *doing) setRegion() {
	rows := d.main.Rows()
	top, bottom := d.ordinal(0), d.param(1, rows)
	if bottom == 0 || bottom > rows {
		bottom = rows
	}
	if top >= bottom {
		return
	}
	d.top, d.bottom = top-1, bottom-1
	d.goToLine(0, 0)
}

func (d *doing) tellWhichItIs() {
	if d.param(0, 0) == 0 {
		d.tell(whichItIs)
	}
}

func (d *doing) tellWhichItIs2() {
	if d.param(0, 0) == 0 {
		d.tell(whichItIs2)
	}
}

func (d *doing) tellStatus() {
	switch d.param(0, 0) {
	case 5:
		d.tell(isReady)
	case 6:
		y := d.at.Y
		if d.origin {
			y = max(y-d.top, 0)
		}
		d.tell(csiStart + strconv.Itoa(y+1) + ";" + strconv.Itoa(d.at.X+1) + "R")
	}
}
