package sfield

import (
	"iter"
	"strings"

	"glacis/api"
	"glacis/sfitem"
)

// blanks are what may stand around a comma; within brackets and at a field's ends it is but the space.
const blanks = " \t"

// reading takes a member off a text: the member, and what follows it.
type reading func(s string) (api.Member, string, api.Errno)

// members goes through the members that a text is made of. A fault is told last, with no member.
func members(s string, read reading) iter.Seq2[api.Member, api.Errno] {
	return func(yield func(api.Member, api.Errno) bool) {
		rest, more := s, s != ""
		for more {
			m, after, err := read(rest)
			if err == api.OK {
				rest, more, err = cutComma(after)
			}
			if err != api.OK {
				yield(api.Member{}, err)
				return
			}
			if !yield(m, api.OK) {
				return
			}
		}
	}
}

// cutComma takes off what parts two members; more tells that there is a comma, so that one more member must follow.
func cutComma(s string) (rest string, more bool, err api.Errno) {
	s = strings.TrimLeft(s, blanks)
	if s == "" {
		return "", false, api.OK
	}
	rest, more = strings.CutPrefix(s, ",")
	if !more {
		return "", false, api.ErrSfForm
	}
	return strings.TrimLeft(rest, blanks), true, api.OK
}

func readMember(s string) (api.Member, string, api.Errno) {
	if inside, opens := strings.CutPrefix(s, "("); opens {
		return readInner(inside)
	}
	x, rest, err := sfitem.Next(s)
	return api.Member{Item: x}, rest, err
}

// readInner reads an inner list from behind its first bracket on.
func readInner(s string) (api.Member, string, api.Errno) {
	var items []api.Item
	rest := strings.TrimLeft(s, " ")
	for !strings.HasPrefix(rest, ")") {
		x, after, err := sfitem.Next(rest)
		rest = strings.TrimLeft(after, " ")
		parted := rest != after || strings.HasPrefix(rest, ")")
		if err != api.OK || !parted {
			return api.Member{}, "", api.ErrSfForm
		}
		items = append(items, x)
	}
	params, rest, err := sfitem.Params(rest[1:])
	return api.Member{Inner: true, Items: items, Params: params}, rest, err
}

// readEntry reads a dictionary's member: a key alone is told as true.
func readEntry(s string) (api.Member, string, api.Errno) {
	key, rest, err := sfitem.Key(s)
	if err != api.OK {
		return api.Member{}, "", err
	}
	if valued, has := strings.CutPrefix(rest, "="); has {
		m, rest, err := readMember(valued)
		m.Key = key
		return m, rest, err
	}
	params, rest, err := sfitem.Params(rest)
	truth := api.Item{Kind: api.SfBool, Int: 1, Params: params}
	return api.Member{Key: key, Item: truth}, rest, err
}
