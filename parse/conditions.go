package parse

import (
	"mullion/api"
	"mullion/format"
	"mullion/lex"
)

// The directives. A line that is none is a command.
type (
	ifLine    struct{ asked string }
	elifLine  struct{ asked string }
	elseLine  struct{}
	endifLine struct{}
)

// told is what words say: a directive, or a command.
func told(words []api.Word) any {
	first, behind := words[0], words[1:]
	if first.Block {
		return command(words)
	}
	switch first.Text {
	case "%if":
		return ifLine{only(behind)}
	case "%elif":
		return elifLine{only(behind)}
	case "%else":
		none(behind)
		return elseLine{}
	case "%endif":
		none(behind)
		return endifLine{}
	}
	return command(words)
}

// only is the text of the one word that there must be.
func only(words []api.Word) string {
	if len(words) != 1 {
		panic(api.ErrForm)
	}
	return words[0].Text
}

func none(words []api.Word) {
	if len(words) != 0 {
		panic(api.ErrForm)
	}
}

// condition is an %if that is open.
type condition struct {
	line  int  // in which it began
	wants bool // what is around it is taken, and no part of it was
	taken bool // the part at hand is taken
	ends  bool // the part at hand is that of its %else
}

// parser takes commands, line by line, as conditions say. What is wrong is a panic of its number, and of the line at hand.
type parser struct {
	scope api.Scope
	line  int
	open  []condition
	list  List
	group int // the last command's, as lex counts them
}

func (p *parser) read(lines []lex.Line) {
	for _, l := range lines {
		p.line = l.Words[0].Line
		switch said := told(l.Words).(type) {
		case ifLine:
			p.begin(said.asked)
		case elifLine:
			p.next(p.unended(), said.asked)
		case elseLine:
			p.last(p.unended())
		case endifLine:
			p.end()
		case command:
			p.take(said, l.Group)
		}
	}
	if len(p.open) > 0 {
		p.line = p.innermost().line
		panic(api.ErrForm)
	}
}

// isTaken tells if commands are taken here.
func (p *parser) isTaken() bool { return len(p.open) == 0 || p.innermost().taken }

// innermost is the condition that was opened last; there must be one.
func (p *parser) innermost() *condition {
	if len(p.open) == 0 {
		panic(api.ErrForm)
	}
	return &p.open[len(p.open)-1]
}

// unended is the innermost condition, which must be one that had no %else.
func (p *parser) unended() *condition {
	c := p.innermost()
	if c.ends {
		panic(api.ErrForm)
	}
	return c
}

func (p *parser) begin(asked string) {
	if len(p.open) == api.MaxDeep {
		panic(api.ErrDeep)
	}
	p.open = append(p.open, condition{line: p.line, wants: p.isTaken()})
	p.next(p.innermost(), asked)
}

// next goes on to a condition's next part. What is asked is expanded only if a part is wanted.
func (p *parser) next(c *condition, asked string) {
	c.taken = c.wants && p.isTrue(asked)
	c.wants = c.wants && !c.taken
}

// last goes on to a condition's %else.
func (p *parser) last(c *condition) { c.taken, c.ends = c.wants, true }

func (p *parser) end() {
	p.innermost()
	p.open = p.open[:len(p.open)-1]
}

func (p *parser) isTrue(asked string) bool {
	expanded, errno := format.Expand(asked, p.scope)
	if errno != api.OK {
		panic(errno)
	}
	return format.True(expanded)
}

// take takes a command, if conditions do. Commands of one group stand in a list of their own.
func (p *parser) take(said command, group int) {
	if !p.isTaken() {
		return
	}
	c := said.made()
	if group != p.group {
		p.group = group
		p.list.Groups = append(p.list.Groups, nil)
	}
	last := len(p.list.Groups) - 1
	p.list.Groups[last] = append(p.list.Groups[last], c)
}
