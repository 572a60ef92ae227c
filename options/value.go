package options

import (
	"cmp"
	"slices"
	"strconv"
	"strings"

	"mullion/api"
	"mullion/style"
)

const mostDigits = 9

// held is what a set has of an option: a text, or, of an array, items by rising numbers. No item is ever changed: what is held then has a list of its own.
type held struct {
	text  string
	items []item
}

type item struct {
	number int
	text   string
}

// arrayOf is an array whose items are the pieces between commas.
func arrayOf(text string) (held, api.Errno) {
	if text == "" {
		return held{}, api.OK
	}
	pieces := strings.Split(text, ",")
	if len(pieces) > mostItems {
		return held{}, api.ErrType
	}
	var h held
	for i, piece := range pieces {
		h.items = append(h.items, item{i, piece})
	}
	return h, api.OK
}

// at is where an item is, or would be.
func (h held) at(number int) (int, bool) {
	return slices.BinarySearchFunc(h.items, number, func(i item, n int) int { return cmp.Compare(i.number, n) })
}

func (h held) item(number int) (string, bool) {
	i, has := h.at(number)
	if !has {
		return "", false
	}
	return h.items[i].text, true
}

// next is the number behind that of the last item.
func (h held) next() int {
	if len(h.items) == 0 {
		return 0
	}
	return h.items[len(h.items)-1].number + 1
}

func (h held) with(number int, text string) held {
	items := slices.Clone(h.items)
	i, has := h.at(number)
	if has {
		items[i].text = text
	} else {
		items = slices.Insert(items, i, item{number, text})
	}
	return held{items: items}
}

func (h held) without(number int) held {
	items := slices.Clone(h.items)
	return held{items: slices.DeleteFunc(items, func(i item) bool { return i.number == number })}
}

// joined is the items' texts, commas between.
func (h held) joined() string {
	var texts []string
	for _, i := range h.items {
		texts = append(texts, i.text)
	}
	return strings.Join(texts, ",")
}

// firstValue is the table's.
func (o option) firstValue() held {
	if o.kind == anArray {
		h, _ := arrayOf(o.first)
		return h
	}
	return held{text: o.first}
}

// made is what the option's kind makes of a text; false: nothing.
func (o option) made(text string) (string, bool) {
	switch o.kind {
	case aNumber:
		return o.number(text)
	case aFlag:
		return flag(text)
	case aChoice:
		return text, slices.Contains(strings.Split(o.choices, ","), text)
	case aColour:
		c, errno := style.Colour(text)
		return style.Name(c), errno == api.OK
	case aStyle:
		_, errno := style.Parse(text, style.Plain())
		return text, errno == api.OK
	}
	return text, true
}

func (o option) number(text string) (string, bool) {
	unsigned := strings.TrimPrefix(text, "-")
	if unsigned == "" || len(unsigned) > mostDigits || strings.Trim(unsigned, digits) != "" {
		return "", false
	}
	n, _ := strconv.Atoi(text) // so few digits are always a number
	return strconv.Itoa(n), o.least <= n && n <= o.most
}

func flag(text string) (string, bool) {
	switch text {
	case on, "yes", "1":
		return on, true
	case off, "no", "0":
		return off, true
	}
	return "", false
}
