package parse

import (
	"slices"
	"strings"
)

// unbounded is the most arguments of a command that may have any number.
const unbounded = -1

// withValue stands behind a flag that a value goes with; it is no flag itself.
const withValue = ':'

// row is a command of the table.
type row struct {
	name, others string // blanks between other names
	flags        string
	least, most  int // how many arguments it has
}

// isCalled tells if a text is the row's name, or another name that it has.
func (r row) isCalled(s string) bool {
	return s == r.name || slices.Contains(strings.Fields(r.others), s)
}

// flag tells if the row has a flag of that letter, and if a value goes with it.
func (r row) flag(letter byte) (has, valued bool) {
	at := strings.IndexByte(r.flags, letter)
	if at < 0 || letter == withValue {
		return false, false
	}
	return true, strings.HasPrefix(r.flags[at+1:], string(withValue))
}

// takes tells if it may have so many arguments.
func (r row) takes(args int) bool {
	return args >= r.least && (r.most == unbounded || args <= r.most)
}

// find is the row that a text names, or alone begins.
func find(s string) (row, bool) {
	var begun row
	many := 0
	for r := range table {
		if r.isCalled(s) {
			return r, true
		}
		if strings.HasPrefix(r.name, s) {
			begun = r
			many++
		}
	}
	if s == "" || many != 1 {
		return row{}, false
	}
	return begun, true
}

// whole is the row of that whole name.
func whole(name string) (row, bool) {
	for r := range table {
		if r.name == name {
			return r, true
		}
	}
	return row{}, false
}

// table tells all rows.
func table(tell func(row) bool) {
	_ = each(ofServer(), tell) && each(ofSessions(), tell) && each(ofWindows(), tell) && each(ofPanes(), tell) &&
		each(ofBuffers(), tell) && each(ofKeys(), tell) && each(ofSettings(), tell)
}

// each tells rows, as long as the next one is asked for.
func each(rows []row, tell func(row) bool) bool {
	for _, r := range rows {
		if !tell(r) {
			return false
		}
	}
	return true
}

func ofServer() []row {
	return []row{
		{"display-message", "display", "pt:", 0, 1},
		{"if-shell", "if", "bFt:", 2, 3},
		{"kill-server", "", "", 0, 0},
		{"list-commands", "lscm", "", 0, 1},
		{"run-shell", "run", "bt:", 1, 1},
		{"source-file", "source", "q", 1, 1},
		{"start-server", "start", "", 0, 0},
		{"wait-for", "wait", "LSU", 1, 1},
	}
}

// ofSessions are also those of clients.
func ofSessions() []row {
	return []row{
		{"attach-session", "attach", "dt:", 0, 0},
		{"detach-client", "detach", "as:t:", 0, 0},
		{"has-session", "has", "t:", 0, 0},
		{"kill-session", "", "at:", 0, 0},
		{"list-clients", "lsc", "F:t:", 0, 0},
		{"list-sessions", "ls", "F:", 0, 0},
		{"new-session", "new", "Adn:s:x:y:", 0, 0},
		{"refresh-client", "refresh", "t:", 0, 0},
		{"rename-session", "rename", "t:", 1, 1},
		{"switch-client", "switchc", "c:lnpt:T:", 0, 0},
	}
}

func ofWindows() []row {
	return []row{
		{"find-window", "findw", "t:", 1, 1},
		{"kill-window", "killw", "at:", 0, 0},
		{"last-window", "last", "t:", 0, 0},
		{"link-window", "linkw", "s:t:", 0, 0},
		{"list-windows", "lsw", "aF:t:", 0, 0},
		{"move-window", "movew", "s:t:", 0, 0},
		{"new-window", "neww", "adn:t:", 0, 1},
		{"next-layout", "nextl", "t:", 0, 0},
		{"next-window", "next", "at:", 0, 0},
		{"previous-window", "prev", "at:", 0, 0},
		{"rename-window", "renamew", "t:", 1, 1},
		{"resize-window", "resizew", "t:x:y:", 0, 0},
		{"rotate-window", "rotatew", "DUt:", 0, 0},
		{"select-layout", "selectl", "t:", 0, 1},
		{"select-window", "selectw", "lnpt:", 0, 0},
		{"swap-window", "swapw", "s:t:", 0, 0},
		{"unlink-window", "unlinkw", "kt:", 0, 0},
	}
}

func ofPanes() []row {
	return []row{
		{"break-pane", "breakp", "dn:s:t:", 0, 0},
		{"capture-pane", "capturep", "pb:S:E:t:", 0, 0},
		{"clear-history", "clearhist", "t:", 0, 0},
		{"copy-mode", "", "qt:", 0, 0},
		{"join-pane", "joinp move-pane", "bdhs:t:l:", 0, 0},
		{"kill-pane", "killp", "at:", 0, 0},
		{"last-pane", "lastp", "t:", 0, 0},
		{"list-panes", "lsp", "aF:st:", 0, 0},
		{"resize-pane", "resizep", "DLRUZt:x:y:", 0, 1},
		{"select-pane", "selectp", "DLRUlmMt:", 0, 0},
		{"split-window", "splitw", "bdhl:t:v", 0, 1},
		{"swap-pane", "swapp", "ds:t:UD", 0, 0},
	}
}

func ofBuffers() []row {
	return []row{
		{"delete-buffer", "deleteb", "b:", 0, 0},
		{"list-buffers", "lsb", "F:", 0, 0},
		{"load-buffer", "loadb", "b:", 1, 1},
		{"paste-buffer", "pasteb", "db:pt:", 0, 0},
		{"save-buffer", "saveb", "b:", 1, 1},
		{"set-buffer", "setb", "b:", 1, 1},
		{"show-buffer", "showb", "b:", 0, 0},
	}
}

func ofKeys() []row {
	return []row{
		{"bind-key", "bind", "nrN:T:", 1, unbounded},
		{"list-keys", "lsk", "T:", 0, 0},
		{"send-keys", "send", "lXt:", 0, unbounded},
		{"send-prefix", "", "t:", 0, 0},
		{"unbind-key", "unbind", "aT:", 0, 1},
	}
}

// ofSettings are options, environments, hooks.
func ofSettings() []row {
	return []row{
		{"set-environment", "setenv", "ugt:", 1, 2},
		{"set-hook", "", "u", 1, 2},
		{"set-option", "set", "agpqst:uw", 1, 2},
		{"show-environment", "showenv", "gt:", 0, 1},
		{"show-hooks", "", "", 0, 1},
		{"show-options", "show", "gpst:vw", 0, 1},
	}
}
