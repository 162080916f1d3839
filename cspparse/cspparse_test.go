package cspparse

import (
	"fmt"
	"slices"
	"strings"
	"testing"

	"glacis/api"
	"glacis/samples"
)

// field is the header's name, and all of a name's blanks are these.
const (
	field  = "content-security-policy"
	blanks = "\t\n\f\r "
)

// names are the two directives.
var names = []string{"frame-ancestors", "sandbox"}

// anc is a policy with frame-ancestors alone, box one with sandbox alone, both one with both.
func anc(values ...string) api.Policy { return api.Policy{HasAnc: true, Anc: values} }

func box(values ...string) api.Policy { return api.Policy{HasBox: true, Box: values} }

func both(a, b api.Policy) api.Policy {
	return api.Policy{HasAnc: true, Anc: a.Anc, HasBox: true, Box: b.Box}
}

// named is a policy with that directive of names alone.
func named(name string, values ...string) api.Policy {
	if name == names[0] {
		return anc(values...)
	}
	return box(values...)
}

func same(p, q api.Policy) bool {
	return p.HasAnc == q.HasAnc && p.HasBox == q.HasBox && slices.Equal(p.Anc, q.Anc) && slices.Equal(p.Box, q.Box)
}

// brief is the beginning of whatever a test has to tell.
func brief(what any) string {
	text := fmt.Sprintf("%v", what)
	return fmt.Sprintf("%q", text[:min(len(text), 300)])
}

// checkOne holds a text's policy against what it should be, and against what its own text is parsed to.
func checkOne(t *testing.T, s string, want api.Policy) {
	t.Helper()
	got := One(s)
	if !same(got, want) {
		t.Errorf("One of %.300q: %s, not %s", s, brief(got), brief(want))
	}
	if again := One(Text(got)); !same(again, got) {
		t.Errorf("One of %.300q: %s, and of its text %.300q: %s", s, brief(got), Text(got), brief(again))
	}
}

func checkText(t *testing.T, p api.Policy, want string) {
	t.Helper()
	if got := Text(p); got != want {
		t.Errorf("Text of %s: %.300q, not %.300q", brief(p), got, want)
	}
}

func checkHead(t *testing.T, l []api.Header, want ...api.Policy) {
	t.Helper()
	if got := Head(l); !slices.EqualFunc(got, want, same) {
		t.Errorf("Head of %.300q: %s, not %s", l, brief(got), brief(want))
	}
}

// checkValue is of a head with one policy header.
func checkValue(t *testing.T, value string, want ...api.Policy) {
	t.Helper()
	checkHead(t, samples.Lines(field, value), want...)
}

// P10.1 to P10.3: the chapter's examples.
func TestExamples(t *testing.T) {
	first := both(anc("a", "b"), box())
	checkOne(t, "Frame-Ancestors a  b; sandbox; frame-ancestors c", first)
	checkText(t, first, "frame-ancestors a b; sandbox")
	checkOne(t, "default-src x", api.Policy{})
	checkOne(t, "", api.Policy{})
	checkHead(t, samples.Lines(field, "sandbox x, img-src y", "frame-ancestors 'none'"), box("x"), anc("'none'"))
}

// P10.1: policies with one directive, with both, in either order, and with neither.
func TestOne(t *testing.T) {
	checkOne(t, "frame-ancestors 'self' https://a *.b:80", anc("'self'", "https://a", "*.b:80"))
	checkOne(t, "frame-ancestors 'none'", anc("'none'"))
	checkOne(t, "sandbox allow-scripts allow-same-origin", box("allow-scripts", "allow-same-origin"))
	want := both(anc("a", "b"), box("c", "d"))
	checkOne(t, "frame-ancestors a b; sandbox c d", want)
	checkOne(t, "sandbox c d; frame-ancestors a b", want)
	checkOne(t, "sandbox c d;frame-ancestors a b;", want)
	checkOne(t, ";;sandbox\tc d;;\n;frame-ancestors\r\fa b ;; ", want)
	checkOne(t, "default-src 'self'; script-src x; img-src *", api.Policy{})
}

// P10.1: a directive without values is a directive.
func TestNoValues(t *testing.T) {
	checkOne(t, "frame-ancestors", anc())
	checkOne(t, "sandbox", box())
	checkOne(t, " sandbox ;\tframe-ancestors\t", both(anc(), box()))
	checkOne(t, "sandbox; frame-ancestors a", both(anc("a"), box()))
	checkOne(t, "sandbox a; frame-ancestors", both(anc(), box("a")))
	for _, name := range names {
		// The first one counts, although it says nothing.
		checkOne(t, name+"; "+name+" a", named(name))
	}
}

// P10.1: names in letters of another size are the same names; no letter beyond A to Z has another size.
func TestNameSizes(t *testing.T) {
	for _, name := range names {
		for _, sized := range samples.Sizes(name) {
			checkOne(t, sized+" a", named(name, "a"))
			checkOne(t, sized+" a; "+name+" b", named(name, "a"))
			checkOne(t, name+" a; "+sized+" b", named(name, "a"))
			checkValue(t, sized, named(name))
		}
		// A letter that strings.EqualFold would take for an s.
		checkOne(t, strings.Replace(name, "s", "\u017f", 1)+" a", api.Policy{})
	}
}

// P10.1: values stay as they are, in whatever letters, and as often as they come.
func TestValuesAsWritten(t *testing.T) {
	for _, value := range []string{"A", "HTTPS://A.Example", "'Self'", "'NONE'", "Allow-Scripts", "a,b", ",", `"`, `"a`, `\`, "a=b", "'", "*", "frame-ancestors", "sandbox", "SANDBOX", "a:b", "\x00", "\v", "\xff", "é", "É", "\u00a0", "\u2003", "\u017f"} {
		for _, name := range names {
			checkOne(t, name+" "+value, named(name, value))
			checkOne(t, name+" "+value+" "+value+" x "+value, named(name, value, value, "x", value))
			checkOne(t, "x "+value+";"+name+" "+value+"; x "+value, named(name, value))
		}
	}
}

// P10.1: blanks of each kind, one and several, at each place.
func TestBlanks(t *testing.T) {
	gaps := []string{"  ", "     ", blanks, blanks + blanks}
	for i := range len(blanks) {
		gaps = append(gaps, blanks[i:i+1])
	}
	for _, gap := range gaps {
		for _, name := range names {
			want := named(name, "a", "b")
			checkOne(t, name+gap+"a"+gap+"b", want)
			checkOne(t, gap+name+gap+"a"+gap+"b"+gap, want)
			checkOne(t, gap+";"+gap+name+gap+"a"+gap+"b"+gap+";"+gap+name+gap+"c", want)
		}
		checkOne(t, gap, api.Policy{})
		checkOne(t, gap+";"+gap, api.Policy{})
		checkOne(t, gap+"sandbox"+gap+";"+gap+"frame-ancestors"+gap, both(anc(), box()))
	}
	// A name begins its part, and no blank is within it.
	checkOne(t, "frame -ancestors a", api.Policy{})
	checkOne(t, "frame-\nancestors a", api.Policy{})
	checkOne(t, "x sandbox; y frame-ancestors a", api.Policy{})
}

// P10.1: each byte at each place between a name and its value: blanks and semicolons part, all others are of a word.
func TestEachByte(t *testing.T) {
	for _, c := range samples.Bytes() {
		isBlank, isEnd := strings.Contains(blanks, c), c == ";"
		for _, name := range names {
			between, behind, ahead := api.Policy{}, named(name, "a"+c+"b"), api.Policy{}
			if isBlank || isEnd {
				ahead = named(name, "a")
			}
			switch {
			case isBlank:
				between, behind = named(name, "a"), named(name, "a", "b")
			case isEnd:
				between, behind = named(name), named(name, "a")
			}
			checkOne(t, name+c+"a", between)
			checkOne(t, name+" a"+c+"b", behind)
			checkOne(t, c+name+" a", ahead)
			for i := 1; i < len(name); i++ {
				checkOne(t, name[:i]+c+name[i:]+" a", api.Policy{})
			}
		}
	}
}

// P10.1: a name with any byte another, or one less, is another one.
func TestOtherNames(t *testing.T) {
	for _, name := range names {
		for i := range len(name) {
			checkOne(t, name[:i]+name[i+1:]+" a", api.Policy{})
			for _, c := range samples.Bytes() {
				if !strings.EqualFold(c, name[i:i+1]) && !(i == 0 && strings.Contains(blanks+";", c)) {
					checkOne(t, name[:i]+c+name[i+1:]+" a", api.Policy{})
				}
			}
		}
		for _, other := range []string{name + "x", "x" + name, name + "-", name + ":", name + ",", name + "=", "'" + name + "'", `"` + name + `"`, name + name, "frame-ancestor", "frame-ancestors-elem", "frame-src", "frames", "sandboxed", "child-src"} {
			checkOne(t, other+" a", api.Policy{})
			checkOne(t, other+" a;"+name+" b;"+other+" c", named(name, "b"))
		}
	}
}

// P10.1, P10.4: of several directives of one name the first one counts, wherever the others stand.
func TestFirstCounts(t *testing.T) {
	for _, name := range names {
		checkOne(t, name+" a; "+name+" b; "+name+" c", named(name, "a"))
		checkOne(t, name+" a; "+name, named(name, "a"))
		checkOne(t, "; ;x y;"+name+" a b;z;"+name+" c d", named(name, "a", "b"))
	}
	want := both(anc("a"), box("b"))
	checkOne(t, "frame-ancestors a; frame-ancestors c; sandbox b; sandbox d", want)
	checkOne(t, "frame-ancestors a; sandbox b; frame-ancestors c; sandbox d", want)
	checkOne(t, "frame-ancestors a; sandbox b; sandbox d; frame-ancestors c", want)
	checkOne(t, "sandbox b; sandbox d; frame-ancestors a; frame-ancestors c", want)
	checkOne(t, "sandbox b; frame-ancestors a; sandbox d; frame-ancestors c; sandbox", want)
	checkOne(t, "sandbox b; SANDBOX d; Frame-Ancestors a; frame-ancestors c", want)
}

// P10.4: directives with other names change nothing, at each place, once and again, with and without values.
func TestOthersChangeNothing(t *testing.T) {
	parts := []string{"frame-ancestors a", "sandbox b", "frame-ancestors c", "sandbox d"}
	want := both(anc("a"), box("b"))
	for _, other := range []string{"", " ", "x", "x y", "default-src 'none'", "frame-src frame-ancestors", "X sandbox e", "report-uri /a,b", "\xff", "'"} {
		for i := range len(parts) + 1 {
			for _, times := range []int{1, 2, 50} {
				checkOne(t, strings.Join(slices.Insert(slices.Clone(parts), i, slices.Repeat([]string{other}, times)...), ";"), want)
			}
		}
	}
}

// P10.1: wrong inputs: texts of which no directive is one of the two.
func TestNeither(t *testing.T) {
	for _, s := range []string{"", " ", blanks, ";", ";;", " ; ; ", "x", "x y; z", ",", ", sandbox", "sandbox, x", "sandbox,frame-ancestors", "-", "frame", "ancestors a", ": sandbox", "sandbox:", "sandbox=a", "'sandbox'", `"sandbox"`, "\vsandbox", "\u00a0sandbox", "sandbox\u00a0", "\x00sandbox", "content-security-policy: sandbox"} {
		checkOne(t, s, api.Policy{})
		checkText(t, One(s), "")
	}
	// Quotes and backslashes hide no semicolon.
	checkOne(t, `x ";sandbox"; sandbox a`, box("a"))
	checkOne(t, `x ";sandbox a" b`, box(`a"`, "b"))
	checkOne(t, `x \;sandbox a\;sandbox`, box(`a\`))
}

// P10.2: a head of one line and of several, with policies between commas.
func TestHead(t *testing.T) {
	checkValue(t, "frame-ancestors a b", anc("a", "b"))
	checkValue(t, "frame-ancestors a, frame-ancestors b", anc("a"), anc("b"))
	checkValue(t, "frame-ancestors a; sandbox, sandbox b; sandbox c", both(anc("a"), box()), box("b"))
	checkHead(t, samples.Lines(field, "sandbox a", "sandbox b, frame-ancestors c", "sandbox"), box("a"), box("b"), anc("c"), box())
	checkHead(t, samples.Lines(field, "sandbox a", "sandbox a", "sandbox a, sandbox a"), box("a"), box("a"), box("a"), box("a"))
	checkValue(t, " frame-ancestors a , sandbox b ", anc("a"), box("b"))
	checkValue(t, "frame-ancestors a,b sandbox,sandbox,c", anc("a"), box())
	checkValue(t, "frame-ancestors,sandbox", anc(), box())
	// A directive ends with its policy: neither name nor values go on behind a comma.
	checkValue(t, "frame-ances,tors a")
	checkValue(t, "sandbox a,b,c", box("a"))
	checkHead(t, samples.Lines(field, "frame-ancestors a;", "sandbox b"), anc("a"), box("b"))
}

// P10.2: of what sets nothing, nothing is told.
func TestHeadNothing(t *testing.T) {
	for _, other := range []string{"", " ", ",", ",,, ,", "x", "x y", "x, y", "default-src 'self'; img-src *", ";", "; ,;", "frame-src a,child-src b"} {
		checkValue(t, other)
		checkHead(t, samples.Lines(field, other, other))
		checkValue(t, other+",sandbox a", box("a"))
		checkValue(t, "sandbox a,"+other, box("a"))
		checkValue(t, "sandbox a,"+other+",frame-ancestors b", box("a"), anc("b"))
		checkHead(t, samples.Lines(field, other, "sandbox a", other, "frame-ancestors b", other), box("a"), anc("b"))
	}
}

// P10.2: commas within quotes part, too.
func TestHeadQuotes(t *testing.T) {
	checkValue(t, `frame-ancestors "a,sandbox b"`, anc(`"a`), box(`b"`))
	checkValue(t, `x ",frame-ancestors a",sandbox`, anc(`a"`), box())
	checkValue(t, `sandbox \,sandbox a`, box(`\`), box("a"))
	checkValue(t, `sandbox 'a,sandbox b'`, box("'a"), box("b'"))
	checkHead(t, samples.Lines(field, `sandbox "a`, `sandbox b"`), box(`"a`), box(`b"`))
}

// P10.2: names of headers in letters of another size, and other names.
func TestHeadNames(t *testing.T) {
	for _, sized := range samples.Sizes(field) {
		checkHead(t, samples.Lines(sized, "sandbox a, frame-ancestors b"), box("a"), anc("b"))
		checkHead(t, slices.Concat(samples.Lines(field, "sandbox a"), samples.Lines(sized, "sandbox b"), samples.Lines(field, "sandbox c")), box("a"), box("b"), box("c"))
	}
	others := []string{"", "x", field + "-report-only", " " + field, field + " ", field + ":", "x-" + field, "x-webkit-csp", strings.Replace(field, "s", "\u017f", 1)}
	for i := range len(field) {
		others = append(others, field[:i]+field[i+1:], field[:i]+"_"+field[i+1:])
	}
	for _, other := range others {
		checkHead(t, samples.Lines(other, "sandbox a", "frame-ancestors b"))
		checkHead(t, slices.Concat(samples.Lines(other, "sandbox a"), samples.Lines(field, "sandbox b"), samples.Lines(other, "sandbox c")), box("b"))
	}
}

// P10.2: no header at all.
func TestNoHeader(t *testing.T) {
	checkHead(t, nil)
	checkHead(t, []api.Header{})
	checkHead(t, []api.Header{{}})
	checkHead(t, slices.Concat(samples.Lines("x", "sandbox"), samples.Lines("sandbox", "frame-ancestors a"), samples.Lines("frame-ancestors", "a")))
}

// P10.3: the texts of policies, parsed or not.
func TestText(t *testing.T) {
	checkText(t, api.Policy{}, "")
	checkText(t, anc(), "frame-ancestors")
	checkText(t, box(), "sandbox")
	checkText(t, both(anc(), box()), "frame-ancestors; sandbox")
	checkText(t, anc("a", "b", "a"), "frame-ancestors a b a")
	checkText(t, box("a", "b", "a"), "sandbox a b a")
	checkText(t, both(anc("a"), box()), "frame-ancestors a; sandbox")
	checkText(t, both(anc(), box("b")), "frame-ancestors; sandbox b")
	checkText(t, both(anc("B", "a"), box("d", "C")), "frame-ancestors B a; sandbox d C")
	// In a text of both, frame-ancestors comes first.
	checkText(t, One(" SandBox\td  C;;Frame-Ancestors B a;x"), "frame-ancestors B a; sandbox d C")
}

// P10.3: what is not set is not told, and what can't be a word is told as it is.
func TestTextByHand(t *testing.T) {
	checkText(t, api.Policy{Anc: []string{"a"}, Box: []string{"b"}}, "")
	checkText(t, api.Policy{HasAnc: true, Anc: []string{"a"}, Box: []string{"b"}}, "frame-ancestors a")
	checkText(t, api.Policy{Anc: []string{"a"}, HasBox: true, Box: []string{"b"}}, "sandbox b")
	checkText(t, anc(""), "frame-ancestors ")
	checkText(t, box("", ""), "sandbox  ")
	checkText(t, both(anc("", "a "), box(" b;", "\xff\x00,")), "frame-ancestors  a ; sandbox  b; \xff\x00,")
}

// P10.4: the text of a parsed policy is a text that stays as it is.
func TestThereAndBack(t *testing.T) {
	values := [][]string{nil, {"a"}, {"a", "b"}, {"'None'", "*", "https://a:*"}, {"frame-ancestors", "sandbox"}, {"a,b", "\v", "\xff", `"`}}
	for _, a := range values {
		for _, b := range values {
			for _, p := range []api.Policy{{}, anc(a...), box(b...), both(anc(a...), box(b...))} {
				checkOne(t, Text(p), p)
			}
		}
	}
}

// R4: what is handed in stays as it is, up to its capacity.
func TestNothingChanged(t *testing.T) {
	room := append(make([]api.Header, 0, 9), samples.Lines("Content-Security-Policy", " SANDBOX A,x", "Frame-Ancestors B; sandbox")...)
	before := slices.Clone(room[:cap(room)])
	for n := range len(room) + 1 {
		Head(room[:n])
	}
	if !slices.Equal(room[:cap(room)], before) {
		t.Errorf("%q was changed to %q", before, room[:cap(room)])
	}
	values := append(make([]string, 0, 9), "a", "b", "c")
	p := both(anc(values[:1]...), box(values[:2]...))
	checkText(t, p, "frame-ancestors a; sandbox a b")
	if !slices.Equal(values[:cap(values)], []string{"a", "b", "c", "", "", "", "", "", ""}) || !same(p, both(anc("a"), box("a", "b"))) {
		t.Errorf("changed: %q, %s", values[:cap(values)], brief(p))
	}
}

// fill writes over a list, and over all the room behind it.
func fill(list []string) {
	list = list[:cap(list)]
	for i := range list {
		list[i] = "filled"
	}
}

// R4: no two lists of an answer share memory, nor does the answer of a second call.
func TestNothingShared(t *testing.T) {
	l := samples.Lines(field, "frame-ancestors a b c; sandbox d e f", "sandbox g h i j k, frame-ancestors l; sandbox")
	want := []api.Policy{both(anc("a", "b", "c"), box("d", "e", "f")), box("g", "h", "i", "j", "k"), both(anc("l"), box())}
	for i := range want {
		for _, of := range []func(p api.Policy) []string{func(p api.Policy) []string { return p.Anc }, func(p api.Policy) []string { return p.Box }} {
			got, other := Head(l), Head(l)
			kept := slices.Clone(of(got[i]))
			fill(of(got[i]))
			// The list gets its own words back; what else was written over stays so.
			copy(of(got[i]), kept)
			if !slices.EqualFunc(got, want, same) || !slices.EqualFunc(other, want, same) {
				t.Errorf("shared: %s, %s", brief(got), brief(other))
			}
		}
	}
	// Nothing is behind a list but what is its own.
	if p := One("sandbox a b c; frame-ancestors d e f g h"); cap(p.Box) != 3 || cap(p.Anc) != 5 {
		t.Errorf("room behind the words: %d, %d", cap(p.Box), cap(p.Anc))
	}
}

// R5: what is held in a map is told in one order.
func TestSameEachTime(t *testing.T) {
	for range 500 {
		checkOne(t, "x a; sandbox b; y c; frame-ancestors d; z e; sandbox f", both(anc("d"), box("b")))
		checkText(t, One("sandbox b; frame-ancestors d"), "frame-ancestors d; sandbox b")
	}
}

// R1: heads that headers.Check refuses are read, too, in a time that doesn't grow with the square of their length.
func TestLong(t *testing.T) {
	const n = 1 << 20
	for _, s := range []string{strings.Repeat("x", n), strings.Repeat(";", n), strings.Repeat(" ", n), strings.Repeat("x;", n/2), strings.Repeat("x y\n", n/4), strings.Repeat("\"", n), strings.Repeat("frame-ancestor", n/16)} {
		checkOne(t, s, api.Policy{})
		checkValue(t, s)
		checkOne(t, s+";sandbox a", box("a"))
		checkOne(t, "sandbox a;"+s, box("a"))
	}
	words := slices.Repeat([]string{"word"}, n/8)
	for _, name := range names {
		checkOne(t, name+strings.Repeat(" word", n/8), named(name, words...))
		checkText(t, named(name, words...), name+strings.Repeat(" word", n/8))
		checkOne(t, strings.Repeat(name+" a;", n/16), named(name, "a"))
		checkValue(t, strings.Repeat(name+" a,", n/16), slices.Repeat([]api.Policy{named(name, "a")}, n/16)...)
		checkHead(t, samples.Lines(field, slices.Repeat([]string{name + " a"}, n/16)...), slices.Repeat([]api.Policy{named(name, "a")}, n/16)...)
	}
	checkValue(t, strings.Repeat(",", n)+"sandbox", box())
	checkHead(t, slices.Concat(slices.Repeat(samples.Lines("x", "sandbox"), n/8), samples.Lines(field, "sandbox")), box())
}
