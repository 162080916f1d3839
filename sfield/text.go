package sfield

import (
	"strings"

	"glacis/api"
	"glacis/sfitem"
)

// join is the text of members, if all of them are valid.
func join(l []api.Member, write func(api.Member) (string, bool)) (string, api.Errno) {
	var texts []string
	for _, m := range l {
		text, valid := write(m)
		if !valid {
			return "", api.ErrSfForm
		}
		texts = append(texts, text)
	}
	return strings.Join(texts, ", "), api.OK
}

func listedText(m api.Member) (string, bool) {
	text, valid := memberText(m)
	if !valid || m.Key != "" {
		return "", false
	}
	return text, true
}

// entryText leaves out the value that a key without one has.
func entryText(m api.Member) (string, bool) {
	text, valid := memberText(m)
	_, rest, err := sfitem.Key(m.Key)
	if !valid || err != api.OK || rest != "" {
		return "", false
	}
	if m.Item.Kind == api.SfBool && m.Item.Int == 1 {
		tail, _ := sfitem.Tail(m.Item.Params) // valid, as the whole item is
		return m.Key + tail, true
	}
	return m.Key + "=" + text, true
}

// memberText is the text of a member without its key.
func memberText(m api.Member) (string, bool) {
	if m.Inner {
		return innerText(m)
	}
	text, err := sfitem.Text(m.Item)
	if err != api.OK || len(m.Items) > 0 || len(m.Params) > 0 {
		return "", false
	}
	return text, true
}

func innerText(m api.Member) (string, bool) {
	var texts []string
	for _, x := range m.Items {
		text, err := sfitem.Text(x)
		if err != api.OK {
			return "", false
		}
		texts = append(texts, text)
	}
	tail, err := sfitem.Tail(m.Params)
	if err != api.OK || !isEmpty(m.Item) {
		return "", false
	}
	return "(" + strings.Join(texts, " ") + ")" + tail, true
}

func isEmpty(x api.Item) bool {
	return x.Kind == 0 && x.Int == 0 && x.Text == "" && len(x.Params) == 0
}
