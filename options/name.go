package options

import (
	"strconv"
	"strings"

	"mullion/api"
)

const (
	letters   = "abcdefghijklmnopqrstuvwxyzABCDEFGHIJKLMNOPQRSTUVWXYZ"
	digits    = "0123456789"
	userMark  = "@"
	mostItems = 1000
	whole     = -1 // no item, but the option itself
)

// place is what a name stands for: an option, or an item of it.
type place struct {
	option
	item int
}

// named is the place of a whole name; false: it is none's.
func named(name string) (place, bool) {
	if isUser(name) {
		return place{option{name: name, scope: Pane, kind: aString}, whole}, true
	}
	ahead, item := cutItem(name)
	for o := range table {
		if o.name == ahead && (item == whole || o.kind == anArray) {
			return place{o, item}, true
		}
	}
	return place{}, false
}

func isUser(name string) bool {
	behind, is := strings.CutPrefix(name, userMark)
	return is && behind != "" && len(name) <= api.MaxName && strings.Trim(behind, letters+digits+"-_") == ""
}

// cutItem takes an item's number off a name's end, if one stands there.
func cutItem(name string) (ahead string, item int) {
	ahead, behind, _ := strings.Cut(name, "[")
	item, err := strconv.Atoi(strings.TrimSuffix(behind, "]"))
	if err != nil || item < 0 || item >= mostItems || name != itemName(ahead, item) {
		return name, whole
	}
	return ahead, item
}

func itemName(array string, item int) string {
	return array + "[" + strconv.Itoa(item) + "]"
}

// Known is the whole name that a text begins (or is), and its kind.
func Known(s string) (string, string, api.Errno) {
	if p, is := named(s); is {
		return s, p.kind, api.OK
	}
	ahead, item := cutItem(s)
	found := beginning(ahead)
	switch {
	case s == "" || len(found) == 0:
		return "", "", api.ErrName
	case len(found) > 1:
		return "", "", api.ErrMany
	case item != whole && found[0].kind != anArray:
		return "", "", api.ErrName
	}
	return found[0].name + s[len(ahead):], found[0].kind, api.OK
}

// beginning is the options whose names begin so.
func beginning(ahead string) []option {
	var found []option
	for o := range table {
		if strings.HasPrefix(o.name, ahead) {
			found = append(found, o)
		}
	}
	return found
}
