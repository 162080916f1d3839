package samples

import (
	"slices"
	"testing"

	"glacis/api"
)

func TestBytes(t *testing.T) {
	all := Bytes()
	if len(all) != 256 {
		t.Fatalf("%d bytes", len(all))
	}
	for i, text := range all {
		if len(text) != 1 || int(text[0]) != i {
			t.Errorf("%d: %q", i, text)
		}
	}
}

func TestSizes(t *testing.T) {
	for text, want := range map[string][]string{"a-b": {"A-B", "A-b", "a-B"}, "Ab": {"AB", "AB"}, "": {""}} {
		if got := Sizes(text); !slices.Equal(got, want) {
			t.Errorf("%q: %q, not %q", text, got, want)
		}
	}
}

func TestLines(t *testing.T) {
	if got := Lines("a", "x", ""); !slices.Equal(got, []api.Header{{Name: "a", Value: "x"}, {Name: "a"}}) {
		t.Errorf("%q", got)
	}
	if got := Lines("a"); len(got) != 0 {
		t.Errorf("%q", got)
	}
}

func TestURL(t *testing.T) {
	want := api.URL{Scheme: "http", Host: api.Host{Name: "a"}, Port: 8, Path: "/b", HasQuery: true, Query: "c"}
	if got := URL("http://a:8/b?c"); got != want {
		t.Errorf("%v", got)
	}
}

func TestOrigins(t *testing.T) {
	want := []api.Origin{{Scheme: "http", Host: api.Host{Name: "a"}, Port: 80}, {Scheme: "https", Host: api.Host{V4: true, Addr: 1 << 24}, Port: 8}, {Opaque: true, Id: 1}}
	if got := Origins("http://a/b", "blob:https://1.0.0.0:8/", "data:,"); !slices.Equal(got, want) {
		t.Errorf("%v", got)
	}
	if got := Origins(); len(got) != 0 {
		t.Errorf("%v", got)
	}
}

func TestNoURL(t *testing.T) {
	for _, of := range []func(){func() { URL("http:a") }, func() { Origin("http:a") }} {
		func() {
			defer func() {
				if recover() == nil {
					t.Error("no panic")
				}
			}()
			of()
		}()
	}
}
