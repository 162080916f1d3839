// Package samples makes inputs for the tests of the layers. No layer calls it.
package samples

import (
	"strings"

	"glacis/api"
	"glacis/origin"
	"glacis/urlp"
)

// Bytes are all bytes, each as a text.
func Bytes() []string {
	var out []string
	for i := range 256 {
		out = append(out, string([]byte{byte(i)}))
	}
	return out
}

// Sizes are a text with each letter made great, alone and all together.
func Sizes(text string) []string {
	out := []string{strings.ToUpper(text)}
	for i := range len(text) {
		if up := text[:i] + strings.ToUpper(text[i:i+1]) + text[i+1:]; up != text {
			out = append(out, up)
		}
	}
	return out
}

// Lines are headers of one name.
func Lines(name string, values ...string) []api.Header {
	var out []api.Header
	for _, v := range values {
		out = append(out, api.Header{Name: name, Value: v})
	}
	return out
}

// URL is the URL of a text that is one.
func URL(text string) api.URL {
	u, err := urlp.Parse(text)
	if err != api.OK {
		panic("no URL: " + text)
	}
	return u
}

// Origin is the origin of a URL's text; an opaque one has the number 1.
func Origin(text string) api.Origin { return origin.Of(URL(text), 1) }

// Origins are those of some texts.
func Origins(texts ...string) []api.Origin {
	var out []api.Origin
	for _, text := range texts {
		out = append(out, Origin(text))
	}
	return out
}
