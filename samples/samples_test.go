package samples

import (
	"slices"
	"testing"

	"glacis/api"
)

func TestBytes(t *testing.T) {
	all := Bytes()
	if len(all) != 256 {
		t.Fatalf("%d bytes", len(all))
	}
	for i, text := range all {
		if len(text) != 1 || int(text[0]) != i {
			t.Errorf("%d: %q", i, text)
		}
	}
}

func TestSizes(t *testing.T) {
	for text, want := range map[string][]string{"a-b": {"A-B", "A-b", "a-B"}, "Ab": {"AB", "AB"}, "": {""}} {
		if got := Sizes(text); !slices.Equal(got, want) {
			t.Errorf("%q: %q, not %q", text, got, want)
		}
	}
}

func TestLines(t *testing.T) {
	if got := Lines("a", "x", ""); !slices.Equal(got, []api.Header{{Name: "a", Value: "x"}, {Name: "a"}}) {
		t.Errorf("%q", got)
	}
	if got := Lines("a"); len(got) != 0 {
		t.Errorf("%q", got)
	}
}
