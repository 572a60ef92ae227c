package options

import "mullion/api"

// Kinds.
const (
	aString = "string"
	aNumber = "number"
	aFlag   = "flag"
	aChoice = "choice"
	aColour = "colour"
	aStyle  = "style"
	anArray = "array"
)

// The values of a flag.
const (
	on  = "on"
	off = "off"
)

// option is a row of the table.
type option struct {
	name        string
	scope       int
	kind, first string
	least, most int    // of a number
	choices     string // of a choice, commas between
}

// table tells all options, scope by scope.
func table(tell func(option) bool) {
	_ = ofServer(tell) && ofSession(tell) && ofWindow(tell) && ofPane(tell)
}

// each tells options of a scope, as long as the next one is asked for.
func each(scope int, options []option, tell func(option) bool) bool {
	for _, o := range options {
		o.scope = scope
		if !tell(o) {
			return false
		}
	}
	return true
}

func ofServer(tell func(option) bool) bool {
	return each(Server, []option{
		{name: "buffer-limit", kind: aNumber, first: "20", least: 1, most: api.MaxBuffers},
		{name: "command-alias", kind: anArray},
		{name: "default-terminal", kind: aString, first: "screen"},
		{name: "escape-time", kind: aNumber, first: "500", most: 10000},
		{name: "exit-empty", kind: aFlag, first: on},
		{name: "exit-unattached", kind: aFlag, first: off},
		{name: "focus-events", kind: aFlag, first: off},
		{name: "message-limit", kind: aNumber, first: "100", most: 1000},
		{name: "set-clipboard", kind: aChoice, first: "external", choices: "off,external,on"},
		{name: "user-keys", kind: anArray},
	}, tell)
}

func ofSession(tell func(option) bool) bool {
	return each(Session, []option{
		{name: "base-index", kind: aNumber, first: "0", most: api.MaxIndex},
		{name: "default-command", kind: aString},
		{name: "default-shell", kind: aString, first: "/bin/sh"},
		{name: "destroy-unattached", kind: aFlag, first: off},
		{name: "detach-on-destroy", kind: aFlag, first: on},
		{name: "display-time", kind: aNumber, first: "750", most: 100000},
		{name: "history-limit", kind: aNumber, first: "2000", most: api.MaxHistory},
		{name: "key-table", kind: aString, first: "root"},
		{name: "message-style", kind: aStyle, first: "fg=black,bg=yellow"},
		{name: "mouse", kind: aFlag, first: off},
		{name: "prefix", kind: aString, first: "C-b"},
		{name: "prefix2", kind: aString, first: "None"},
		{name: "renumber-windows", kind: aFlag, first: off},
		{name: "repeat-time", kind: aNumber, first: "500", most: 10000},
		{name: "set-titles", kind: aFlag, first: off},
		{name: "set-titles-string", kind: aString, first: "#S:#I:#W"},
		{name: "status", kind: aFlag, first: on},
		{name: "status-interval", kind: aNumber, first: "15", most: 3600},
		{name: "status-justify", kind: aChoice, first: "left", choices: "left,centre,right"},
		{name: "status-keys", kind: aChoice, first: "emacs", choices: "emacs,vi"},
		{name: "status-left", kind: aString, first: "[#S] "},
		{name: "status-left-length", kind: aNumber, first: "10", most: api.MaxCols},
		{name: "status-position", kind: aChoice, first: "bottom", choices: "top,bottom"},
		{name: "status-right", kind: aString, first: " #T"},
		{name: "status-right-length", kind: aNumber, first: "40", most: api.MaxCols},
		{name: "status-style", kind: aStyle, first: "fg=black,bg=green"},
		{name: "update-environment", kind: anArray, first: "DISPLAY,SSH_AGENT_PID"},
		{name: "word-separators", kind: aString, first: " -_@"},
	}, tell)
}

func ofWindow(tell func(option) bool) bool {
	return each(Window, []option{
		{name: "aggressive-resize", kind: aFlag, first: off},
		{name: "allow-rename", kind: aFlag, first: on},
		{name: "automatic-rename", kind: aFlag, first: off},
		{name: "main-pane-height", kind: aNumber, first: "24", least: 1, most: api.MaxRows},
		{name: "main-pane-width", kind: aNumber, first: "80", least: 1, most: api.MaxCols},
		{name: "mode-keys", kind: aChoice, first: "emacs", choices: "emacs,vi"},
		{name: "mode-style", kind: aStyle, first: "fg=black,bg=yellow"},
		{name: "monitor-activity", kind: aFlag, first: off},
		{name: "monitor-bell", kind: aFlag, first: on},
		{name: "pane-active-border-style", kind: aStyle, first: "fg=green"},
		{name: "pane-base-index", kind: aNumber, first: "0", most: api.MaxIndex},
		{name: "pane-border-style", kind: aStyle, first: "default"},
		{name: "synchronize-panes", kind: aFlag, first: off},
		{name: "window-status-current-format", kind: aString, first: "#I:#W#F"},
		{name: "window-status-current-style", kind: aStyle, first: "default"},
		{name: "window-status-format", kind: aString, first: "#I:#W#F"},
		{name: "window-status-separator", kind: aString, first: " "},
		{name: "window-status-style", kind: aStyle, first: "default"},
		{name: "wrap-search", kind: aFlag, first: on},
	}, tell)
}

func ofPane(tell func(option) bool) bool {
	return each(Pane, []option{
		{name: "allow-passthrough", kind: aChoice, first: off, choices: "off,on,all"},
		{name: "alternate-screen", kind: aFlag, first: on},
		{name: "cursor-colour", kind: aColour, first: "default"},
		{name: "remain-on-exit", kind: aFlag, first: off},
		{name: "window-active-style", kind: aStyle, first: "default"},
		{name: "window-style", kind: aStyle, first: "default"},
	}, tell)
}
