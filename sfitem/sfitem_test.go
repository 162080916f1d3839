package sfitem

import (
	"math"
	"reflect"
	"strconv"
	"strings"
	"testing"

	"glacis/api"
)

const greatest = 999999999999999

func integer(n int) api.Item     { return api.Item{Kind: api.SfInt, Int: n} }
func decimal(n int) api.Item     { return api.Item{Kind: api.SfDecimal, Int: n} }
func text(s string) api.Item     { return api.Item{Kind: api.SfText, Text: s} }
func token(s string) api.Item    { return api.Item{Kind: api.SfToken, Text: s} }
func sequence(s string) api.Item { return api.Item{Kind: api.SfBytes, Text: s} }
func boolean(n int) api.Item     { return api.Item{Kind: api.SfBool, Int: n} }

func with(x api.Item, l ...api.Param) api.Item {
	x.Params = l
	return x
}

func param(key string, x api.Item) api.Param {
	return api.Param{Key: key, Kind: x.Kind, Int: x.Int, Text: x.Text}
}

// sameParams takes an empty list and no list for the same.
func sameParams(a, b []api.Param) bool {
	return len(a) == 0 && len(b) == 0 || reflect.DeepEqual(a, b)
}

func same(a, b api.Item) bool {
	return a.Kind == b.Kind && a.Int == b.Int && a.Text == b.Text && sameParams(a.Params, b.Params)
}

// checkNext asks for an item and a rest; the zero item stands for an error.
func checkNext(t *testing.T, s string, want api.Item, rest string) {
	t.Helper()
	var wantErr api.Errno
	if want.Kind == 0 {
		wantErr = api.ErrSfForm
	}
	x, left, err := Next(s)
	if !same(x, want) || left != rest || err != wantErr {
		t.Errorf("Next(%q) = %v, %q, %d, not %v, %q, %d", s, x, left, err, want, rest, wantErr)
	}
}

func checkParse(t *testing.T, s string, want api.Item) {
	t.Helper()
	var wantErr api.Errno
	if want.Kind == 0 {
		wantErr = api.ErrSfForm
	}
	if x, err := Parse(s); !same(x, want) || err != wantErr {
		t.Errorf("Parse(%q) = %v, %d, not %v, %d", s, x, err, want, wantErr)
	}
}

func checkText(t *testing.T, x api.Item, want string) {
	t.Helper()
	if s, err := Text(x); s != want || err != api.OK {
		t.Errorf("Text(%v) = %q, %d, not %q", x, s, err, want)
	}
}

func checkNoText(t *testing.T, x api.Item) {
	t.Helper()
	if s, err := Text(x); s != "" || err != api.ErrSfForm {
		t.Errorf("Text(%v) = %q, %d, not ErrSfForm", x, s, err)
	}
}

// P5.1: integers and decimals, by the number of their digits.
func TestNumbers(t *testing.T) {
	for _, c := range []struct {
		s    string
		want api.Item
		rest string
	}{
		{"0", integer(0), ""},
		{"-0", integer(0), ""},
		{"000", integer(0), ""},
		{"007", integer(7), ""},
		{"-7", integer(-7), ""},
		{"-007", integer(-7), ""},
		{"999999999999999", integer(greatest), ""},
		{"-999999999999999", integer(-greatest), ""},
		{"000000000000001", integer(1), ""},
		{"1000000000000000", api.Item{}, ""},
		{"-1000000000000000", api.Item{}, ""},
		{"0000000000000001", api.Item{}, ""},
		{strings.Repeat("9", 40), api.Item{}, ""},
		{strings.Repeat("0", 4000), api.Item{}, ""},
		{"1.0", decimal(1000), ""},
		{"1.5", decimal(1500), ""},
		{"1.05", decimal(1050), ""},
		{"1.005", decimal(1005), ""},
		{"1.500", decimal(1500), ""},
		{"0.001", decimal(1), ""},
		{"-0.001", decimal(-1), ""},
		{"-0.0", decimal(0), ""},
		{"-12.50", decimal(-12500), ""},
		{"001.2", decimal(1200), ""},
		{"999999999999.999", decimal(greatest), ""},
		{"-999999999999.999", decimal(-greatest), ""},
		{"000000000001.0", decimal(1000), ""},
		{"1000000000000.0", api.Item{}, ""},
		{"0000000000001.0", api.Item{}, ""},
		{"1000000000000000.0", api.Item{}, ""},
		{"1000000000000.", api.Item{}, ""},
		{"1.0000", api.Item{}, ""},
		{"1.0005", api.Item{}, ""},
		{"1.", api.Item{}, ""},
		{"1..", api.Item{}, ""},
		{"1.a", api.Item{}, ""},
		{"1.-1", api.Item{}, ""},
		{"1. 1", api.Item{}, ""},
		{"-", api.Item{}, ""},
		{"--1", api.Item{}, ""},
		{"- 1", api.Item{}, ""},
		{"-.5", api.Item{}, ""},
		{".5", api.Item{}, ""},
		{"-a", api.Item{}, ""},
		{"+1", api.Item{}, ""},
		{"1-2", integer(1), "-2"},
		{"1a", integer(1), "a"},
		{"12 ", integer(12), " "},
		{"1,2", integer(1), ",2"},
		{"1.5.5", decimal(1500), ".5"},
		{"1.5e3", decimal(1500), "e3"},
		{"1.555x", decimal(1555), "x"},
		{"1\xff", integer(1), "\xff"},
	} {
		checkNext(t, c.s, c.want, c.rest)
	}
}

// P5.1: each number of digits, before and behind the dot.
func TestEachNumberOfDigits(t *testing.T) {
	for whole := range 20 {
		before := strings.Repeat("1", whole)
		want := api.Item{}
		if 1 <= whole && whole <= 15 {
			n, _ := strconv.Atoi(before)
			want = integer(n)
		}
		checkNext(t, before, want, "")
		for part := range 7 {
			s, want := before+"."+"234567"[:part], api.Item{}
			if 1 <= whole && whole <= 12 && 1 <= part && part <= 3 {
				n, _ := strconv.Atoi(before + ("234567"[:part] + "000")[:3])
				want = decimal(n)
				checkNext(t, "-"+s, decimal(-n), "")
			} else {
				checkNext(t, "-"+s, want, "")
			}
			checkNext(t, s, want, "")
		}
	}
}

// P5.1: strings and their escapes.
func TestStrings(t *testing.T) {
	for _, c := range []struct {
		s    string
		want api.Item
		rest string
	}{
		{`""`, text(""), ""},
		{`"a"`, text("a"), ""},
		{`" a "`, text(" a "), ""},
		{`"a\"b"`, text(`a"b`), ""},
		{`"a\\b"`, text(`a\b`), ""},
		{`"\\"`, text(`\`), ""},
		{`"\\\""`, text(`\"`), ""},
		{`"\\\\"`, text(`\\`), ""},
		{`"\\""`, text(`\`), `"`},
		{`"a"b"`, text("a"), `b"`},
		{`""""`, text(""), `""`},
		{`"a;b=1"`, text("a;b=1"), ""},
		{`"a`, api.Item{}, ""},
		{`"`, api.Item{}, ""},
		{`"\"`, api.Item{}, ""},
		{`"\`, api.Item{}, ""},
		{`"a\`, api.Item{}, ""},
		{`"\a"`, api.Item{}, ""},
		{`"\ "`, api.Item{}, ""},
		{`"\n"`, api.Item{}, ""},
		{"\"\\\xff\"", api.Item{}, ""},
		{"\"\u00e9\"", api.Item{}, ""},
		{`'a'`, api.Item{}, ""},
	} {
		checkNext(t, c.s, c.want, c.rest)
	}
}

// P5.1: which bytes may stand where; each byte is tried alone.
func TestEachByte(t *testing.T) {
	const (
		lower  = "abcdefghijklmnopqrstuvwxyz"
		upper  = "ABCDEFGHIJKLMNOPQRSTUVWXYZ"
		digits = "0123456789"
	)
	for i := range 256 {
		b := string([]byte{byte(i)})
		in := func(set string) bool { return strings.Contains(set, b) }
		isToken := in(lower + upper + digits + ":/!#$%&'*+-.^_|~\x60")
		switch {
		case in(lower + upper + "*"):
			checkNext(t, b, token(b), "")
		case in(digits):
			checkNext(t, b, integer(i-'0'), "")
		default:
			checkNext(t, b, api.Item{}, "")
		}
		if isToken {
			checkNext(t, "a"+b, token("a"+b), "")
			checkNext(t, "*"+b+"z", token("*"+b+"z"), "")
		} else if b != ";" {
			checkNext(t, "a"+b, token("a"), b)
		}
		if i >= 32 && i <= 126 && !in(`"\`) {
			checkNext(t, `"`+b+`"`, text(b), "")
			checkText(t, text(b), `"`+b+`"`)
		} else if !in(`"\`) {
			checkNext(t, `"`+b+`"`, api.Item{}, "")
			checkNoText(t, text(b))
			checkNoText(t, text("a"+b))
		}
		if in(`"\`) {
			checkNext(t, `"\`+b+`"`, text(b), "")
		} else {
			checkNext(t, `"\`+b+`"`, api.Item{}, "")
		}
		if in(lower + upper + digits + "+/=") {
			checkNext(t, ":"+b+":", sequence(b), "")
			checkText(t, sequence(b), ":"+b+":")
		} else {
			if b != ":" {
				checkNext(t, ":"+b+":", api.Item{}, "")
			}
			checkNoText(t, sequence(b))
			checkNoText(t, sequence("a"+b))
		}
		if in("01") {
			checkNext(t, "?"+b, boolean(i-'0'), "")
		} else {
			checkNext(t, "?"+b, api.Item{}, "")
		}
		checkEachKeyByte(t, b, in(lower+"*"), in(lower+digits+"_-.*"))
	}
}

func checkEachKeyByte(t *testing.T, b string, begins, follows bool) {
	t.Helper()
	if key, rest, err := Key(b); begins != (key == b && err == api.OK) || !begins && (key != "" || err != api.ErrSfForm) || rest != "" {
		t.Errorf("Key(%q) = %q, %q, %d", b, key, rest, err)
	}
	want, left := "a", b+"z"
	if follows {
		want, left = "a"+b+"z", ""
	}
	if key, rest, err := Key("a" + b + "z"); key != want || rest != left || err != api.OK {
		t.Errorf("Key(%q) = %q, %q, %d", "a"+b+"z", key, rest, err)
	}
	if s, err := Tail([]api.Param{param(b, boolean(1))}); begins != (s == ";"+b && err == api.OK) || !begins && (s != "" || err != api.ErrSfForm) {
		t.Errorf("Tail of the key %q = %q, %d", b, s, err)
	}
	if s, err := Tail([]api.Param{param("*"+b, boolean(1))}); follows != (s == ";*"+b && err == api.OK) || !follows && (s != "" || err != api.ErrSfForm) {
		t.Errorf("Tail of the key %q = %q, %d", "*"+b, s, err)
	}
}

// P5.1: tokens, byte sequences and booleans.
func TestOtherValues(t *testing.T) {
	for _, c := range []struct {
		s    string
		want api.Item
		rest string
	}{
		{"same-origin", token("same-origin"), ""},
		{"A", token("A"), ""},
		{"*", token("*"), ""},
		{"*/x:y", token("*/x:y"), ""},
		{"a b", token("a"), " b"},
		{"a,b", token("a"), ",b"},
		{`a"b"`, token("a"), `"b"`},
		{"a=b", token("a"), "=b"},
		{"a\xc3\xa9", token("a"), "\xc3\xa9"},
		{"_a", api.Item{}, ""},
		{"/a", api.Item{}, ""},
		{" a", api.Item{}, ""},
		{"", api.Item{}, ""},
		{"(a)", api.Item{}, ""},
		{"@1", api.Item{}, ""},
		{";a", api.Item{}, ""},
		{":YQ==:", sequence("YQ=="), ""},
		{"::", sequence(""), ""},
		{":===:", sequence("==="), ""},
		{":=a+/9:", sequence("=a+/9"), ""},
		{":a::", sequence("a"), ":"},
		{":a:b:", sequence("a"), "b:"},
		{":", api.Item{}, ""},
		{":a", api.Item{}, ""},
		{":a b:", api.Item{}, ""},
		{":a-b_:", api.Item{}, ""},
		{"?0", boolean(0), ""},
		{"?1", boolean(1), ""},
		{"?10", boolean(1), "0"},
		{"?1?0", boolean(1), "?0"},
		{"?", api.Item{}, ""},
		{"? 1", api.Item{}, ""},
		{"?t", api.Item{}, ""},
		{"?2", api.Item{}, ""},
	} {
		checkNext(t, c.s, c.want, c.rest)
	}
}

// P5.2: Key.
func TestKey(t *testing.T) {
	for _, c := range []struct{ s, key, rest string }{
		{"a", "a", ""},
		{"*", "*", ""},
		{"**", "**", ""},
		{"a.b=1", "a.b", "=1"},
		{"a_b-c.d*0 ", "a_b-c.d*0", " "},
		{"report-to;x", "report-to", ";x"},
		{"aB", "a", "B"},
		{"a\x00", "a", "\x00"},
		{"a\u00e9", "a", "\u00e9"},
	} {
		if key, rest, err := Key(c.s); key != c.key || rest != c.rest || err != api.OK {
			t.Errorf("Key(%q) = %q, %q, %d", c.s, key, rest, err)
		}
	}
	for _, s := range []string{"", "A", "Ab", "1", "_a", "-a", ".a", " a", "=", ";a", "\xe9", "\x00"} {
		if key, rest, err := Key(s); key != "" || rest != "" || err != api.ErrSfForm {
			t.Errorf("Key(%q) = %q, %q, %d", s, key, rest, err)
		}
	}
}

// P5.2: Params.
func TestParams(t *testing.T) {
	yes := boolean(1)
	for _, c := range []struct {
		s    string
		want []api.Param
		rest string
	}{
		{"", nil, ""},
		{"a", nil, "a"},
		{" ;a", nil, " ;a"},
		{",;a", nil, ",;a"},
		{";a", []api.Param{param("a", yes)}, ""},
		{";   a", []api.Param{param("a", yes)}, ""},
		{";a;b", []api.Param{param("a", yes), param("b", yes)}, ""},
		{";b;a", []api.Param{param("b", yes), param("a", yes)}, ""},
		{";a ;b", []api.Param{param("a", yes)}, " ;b"},
		{";a; b", []api.Param{param("a", yes), param("b", yes)}, ""},
		{";a\t;b", []api.Param{param("a", yes)}, "\t;b"},
		{";a=1", []api.Param{param("a", integer(1))}, ""},
		{";a=-1.5;b=\"x;\\\"\";c=t/u;d=:+:;e=?0;f=?1;*=*", []api.Param{
			param("a", decimal(-1500)), param("b", text(`x;"`)), param("c", token("t/u")),
			param("d", sequence("+")), param("e", boolean(0)), param("f", yes), param("*", token("*")),
		}, ""},
		{";a=1, b", []api.Param{param("a", integer(1))}, ", b"},
		{";a=1=2", []api.Param{param("a", integer(1))}, "=2"},
		{";aB", []api.Param{param("a", yes)}, "B"},
		{";a =1", []api.Param{param("a", yes)}, " =1"},
		{";a=1;b;a=2", []api.Param{param("a", integer(2)), param("b", yes)}, ""},
		{";a=1;a", []api.Param{param("a", yes)}, ""},
		{";a;a=x", []api.Param{param("a", token("x"))}, ""},
		{";a=1;b=2;c=3;b=4;a=5;b=\"6\"", []api.Param{param("a", integer(5)), param("b", text("6")), param("c", integer(3))}, ""},
	} {
		if l, rest, err := Params(c.s); !sameParams(l, c.want) || rest != c.rest || err != api.OK {
			t.Errorf("Params(%q) = %v, %q, %d, not %v, %q", c.s, l, rest, err, c.want, c.rest)
		}
	}
	for _, s := range []string{
		";", "; ", ";;", ";a;", ";a; ", ";a;;b", ";A", ";1", ";=1", ";\ta", ";a=", ";a= 1", ";a=;b", ";a=,",
		";a=1.", ";a=1000000000000000", ";a=\"", ";a=?", ";a=?2", ";a=:", ";a=(b)", ";a==1", ";a=1;b=", ";a=1;b=\xff", ";\u00a0a",
		";a=1.;a=1", ";a=1;a=1.",
	} {
		if l, rest, err := Params(s); len(l) != 0 || rest != "" || err != api.ErrSfForm {
			t.Errorf("Params(%q) = %v, %q, %d", s, l, rest, err)
		}
	}
}

// P5.2: Next takes the value and its parameters, and leaves what follows.
func TestNext(t *testing.T) {
	yes := boolean(1)
	checkNext(t, "a;b, c", with(token("a"), param("b", yes)), ", c")
	checkNext(t, "a; b=1 ;c", with(token("a"), param("b", integer(1))), " ;c")
	checkNext(t, "1;a=1;b;a=2)", with(integer(1), param("a", integer(2)), param("b", yes)), ")")
	checkNext(t, "a ", token("a"), " ")
	checkNext(t, "a ;b", token("a"), " ;b")
	checkNext(t, " a", api.Item{}, "")
	checkNext(t, "\ta", api.Item{}, "")
	checkNext(t, "a;", api.Item{}, "")
	checkNext(t, "a;B", api.Item{}, "")
	checkNext(t, "a;b;", api.Item{}, "")
	checkNext(t, "a;b=", api.Item{}, "")
	checkNext(t, "=1", api.Item{}, "")
	checkNext(t, ";a", api.Item{}, "")
}

// P5.2: Parse trims spaces, and nothing else, and leaves nothing over.
func TestParse(t *testing.T) {
	yes := boolean(1)
	checkParse(t, `same-origin; report-to="e"`, with(token("same-origin"), param("report-to", text("e"))))
	checkParse(t, "-12.50;a;b=?0", with(decimal(-12500), param("a", yes), param("b", boolean(0))))
	checkParse(t, "  a  ", token("a"))
	checkParse(t, " a; b ", with(token("a"), param("b", yes)))
	checkParse(t, ` " " `, text(" "))
	for _, s := range []string{
		"", " ", "   ", "1 2", `"a`, "1.", "A;B", "a b", "a,b", "a, b", "a ;b", "a;", "a; ", "a;b= ", "a;b=1 c", `"a" "b"`, "(a)", "a=1",
		"\ta", "a\t", "\na", "a\n", "\u00a0a", "a\u00a0", "\va", "a\r", "\x00a", "a\x00", `"a\ `, "?1 ?", "1.5 .", "\xff",
	} {
		checkParse(t, s, api.Item{})
	}
}

// P5.2: the limit is one of the bytes of the argument, the spaces at its ends among them; Next has none.
func TestMaxField(t *testing.T) {
	most := strings.Repeat("a", api.MaxField)
	checkParse(t, most, token(most))
	checkParse(t, most+"a", api.Item{})
	checkParse(t, " "+most[1:], token(most[1:]))
	checkParse(t, most[1:]+" ", token(most[1:]))
	checkParse(t, " "+most, api.Item{})
	checkParse(t, most+" ", api.Item{})
	checkParse(t, "a"+strings.Repeat(" ", api.MaxField-1), token("a"))
	checkParse(t, "a"+strings.Repeat(" ", api.MaxField), api.Item{})
	checkParse(t, strings.Repeat(" ", api.MaxField)+"a", api.Item{})
	checkParse(t, "a;"+strings.Repeat(" ", api.MaxField-3)+"b", with(token("a"), param("b", boolean(1))))
	checkParse(t, "a;"+strings.Repeat(" ", api.MaxField-2)+"b", api.Item{})
	checkNext(t, most+most, token(most+most), "")
	checkText(t, token(most+most), most+most)
	if key, rest, err := Key(most + most); key != most+most || rest != "" || err != api.OK {
		t.Errorf("Key of a long text: %d bytes, rest %q, %d", len(key), rest, err)
	}
}

// P5.3: the text of a valid item.
func TestText(t *testing.T) {
	yes := boolean(1)
	for _, c := range []struct {
		x    api.Item
		want string
	}{
		{integer(0), "0"},
		{integer(7), "7"},
		{integer(-7), "-7"},
		{integer(greatest), "999999999999999"},
		{integer(-greatest), "-999999999999999"},
		{decimal(0), "0.0"},
		{decimal(1), "0.001"},
		{decimal(-1), "-0.001"},
		{decimal(10), "0.01"},
		{decimal(100), "0.1"},
		{decimal(-100), "-0.1"},
		{decimal(101), "0.101"},
		{decimal(110), "0.11"},
		{decimal(999), "0.999"},
		{decimal(1000), "1.0"},
		{decimal(-1000), "-1.0"},
		{decimal(1001), "1.001"},
		{decimal(10000), "10.0"},
		{decimal(-12500), "-12.5"},
		{decimal(120050), "120.05"},
		{decimal(greatest), "999999999999.999"},
		{decimal(-greatest), "-999999999999.999"},
		{decimal(999999999999000), "999999999999.0"},
		{text(""), `""`},
		{text("a b"), `"a b"`},
		{text(`a"b\c`), `"a\"b\\c"`},
		{text(`\"`), `"\\\""`},
		{text(" ~"), `" ~"`},
		{token("a"), "a"},
		{token("*/x:y"), "*/x:y"},
		{token("A1"), "A1"},
		{sequence(""), "::"},
		{sequence("YQ=="), ":YQ==:"},
		{boolean(0), "?0"},
		{boolean(1), "?1"},
		{with(boolean(1), param("a", yes)), "?1;a"},
		{with(decimal(-12500), param("a", yes), param("b", boolean(0))), "-12.5;a;b=?0"},
		{with(token("a"), param("b", integer(1)), param("a", integer(0)), param("*", text(`"`)), param("c-._", sequence(""))), `a;b=1;a=0;*="\"";c-._=::`},
		{with(integer(1), param("a", decimal(1000)), param("b", token("x")), param("c", text(""))), `1;a=1.0;b=x;c=""`},
		{with(integer(1), []api.Param{}...), "1"},
	} {
		checkText(t, c.x, c.want)
		if tail, err := Tail(c.x.Params); err != api.OK || !strings.HasSuffix(c.want, tail) || (tail == "") != (len(c.x.Params) == 0) {
			t.Errorf("Tail(%v) = %q, %d", c.x.Params, tail, err)
		}
	}
}

// invalid are values made by hand that nothing can be read as.
func invalid() []api.Item {
	return []api.Item{
		{}, {Kind: -1}, {Kind: 7}, {Kind: math.MaxInt}, {Kind: math.MinInt}, {Kind: 0, Text: "a"}, {Kind: 7, Int: 1},
		integer(greatest + 1), integer(-greatest - 1), integer(math.MaxInt), integer(math.MinInt),
		decimal(greatest + 1), decimal(-greatest - 1), decimal(math.MaxInt), decimal(math.MinInt),
		text("\n"), text("a\x1f"), text("\x7f"), text("\u00e9"), text("a\x00b"), text("\xff"),
		token(""), token("1"), token("a b"), token(" a"), token("a "), token("a;b"), token("?1"), token(":a:"), token(`"a"`), token("-"), token("_"), token("/a"), token("a,"), token("a\x00"), token("a\u00e9"), token("-1"),
		sequence(":"), sequence("a:"), sequence(":a"), sequence("a:b"), sequence(" "), sequence("a b"), sequence("-"), sequence("::"), sequence("a:;b"), sequence("\xff"),
		boolean(2), boolean(-1), boolean(10), boolean(math.MinInt),
		{Kind: api.SfInt, Int: 1, Text: "1"}, {Kind: api.SfDecimal, Int: 1000, Text: "1.0"}, {Kind: api.SfBool, Text: "a"}, {Kind: api.SfBool, Int: 1, Text: "1"},
		{Kind: api.SfText, Int: 1}, {Kind: api.SfText, Int: -1, Text: "a"}, {Kind: api.SfToken, Int: 1, Text: "a"}, {Kind: api.SfBytes, Int: 1, Text: "a"},
	}
}

// P5.3: what is not valid has no text, neither as an item nor as a parameter.
func TestNoText(t *testing.T) {
	for _, x := range invalid() {
		checkNoText(t, x)
		checkNoText(t, with(x, param("a", boolean(1))))
		for _, l := range [][]api.Param{{param("a", x)}, {param("a", integer(1)), param("b", x)}, {param("a", x), param("b", integer(1))}} {
			checkNoText(t, with(token("a"), l...))
			if s, err := Tail(l); s != "" || err != api.ErrSfForm {
				t.Errorf("Tail(%v) = %q, %d", l, s, err)
			}
		}
	}
	for _, key := range []string{"", "A", "1", "_", "-", ".", "a ", " a", "aB", "a=", "a=1", "a;", ";a", "a;b", "a\x00", "\u00e9", "a\u00e9", "*/"} {
		for _, x := range []api.Item{integer(1), boolean(1), boolean(0)} {
			if s, err := Tail([]api.Param{param(key, x)}); s != "" || err != api.ErrSfForm {
				t.Errorf("Tail of the key %q = %q, %d", key, s, err)
			}
			checkNoText(t, with(x, param("a", x), param(key, x)))
		}
	}
}

// P5.3: a key may not come twice, whatever its values are.
func TestTwice(t *testing.T) {
	a, b := param("a", integer(1)), param("b", boolean(1))
	for _, l := range [][]api.Param{{a, a}, {a, b, a}, {b, b}, {b, a, b}, {a, param("a", integer(2))}, {a, param("a", boolean(1))}, {b, a, param("a", text("a"))}} {
		if s, err := Tail(l); s != "" || err != api.ErrSfForm {
			t.Errorf("Tail(%v) = %q, %d", l, s, err)
		}
		checkNoText(t, with(token("a"), l...))
	}
	if s, err := Tail([]api.Param{a, b, param("ab", boolean(1)), param("a*", boolean(0))}); s != ";a=1;b;ab;a*=?0" || err != api.OK {
		t.Errorf("Tail of four keys = %q, %d", s, err)
	}
	for _, l := range [][]api.Param{nil, {}} {
		if s, err := Tail(l); s != "" || err != api.OK {
			t.Errorf("Tail of nothing = %q, %d", s, err)
		}
	}
}

// R4: what is handed in stays as it is, and an answer is nobody else's.
func TestNothingShared(t *testing.T) {
	room := []api.Param{param("a", integer(1)), param("b", boolean(1)), param("c", text("x"))}
	before := append([]api.Param(nil), room...)
	if s, err := Text(with(token("t"), room[:2]...)); s != "t;a=1;b" || err != api.OK {
		t.Errorf("Text = %q, %d", s, err)
	}
	if _, err := Tail(room[:1]); err != api.OK || !reflect.DeepEqual(room, before) {
		t.Errorf("parameters changed: %v", room)
	}
	first, _ := Parse("t;a=1;b")
	second, _ := Parse("t;a=1;b")
	first.Params[0].Int = 9
	_ = append(first.Params[:1], param("z", integer(9)))
	if !same(second, with(token("t"), room[:2]...)) {
		t.Errorf("one answer changed with the other: %v", second)
	}
}

// R1: long texts end, and in a time that doesn't grow with the square of their length.
func TestLongTexts(t *testing.T) {
	const many = 200000
	var s strings.Builder
	for i := range many {
		s.WriteString(";k" + strconv.Itoa(i))
	}
	tail := s.String()
	l, rest, err := Params(tail + tail)
	if len(l) != many || rest != "" || err != api.OK {
		t.Fatalf("%d parameters, rest %q, %d", len(l), rest, err)
	}
	if again, err := Tail(l); again != tail || err != api.OK {
		t.Errorf("the tail is another one: %d bytes, %d", len(again), err)
	}
	long := strings.Repeat(`\"`, many)
	checkText(t, text(long), `"`+strings.ReplaceAll(strings.ReplaceAll(long, `\`, `\\`), `"`, `\"`)+`"`)
	checkNext(t, `"`+strings.Repeat("a", many), api.Item{}, "")
	checkNext(t, strings.Repeat("9", many), api.Item{}, "")
	checkNext(t, "a"+strings.Repeat("; ", many), api.Item{}, "")
}

// A panic that is no syntax error is a fault of the program, and isn't told as one of the field.
func TestForeignPanic(t *testing.T) {
	defer func() {
		if fault := recover(); fault != "foreign" {
			t.Errorf("recovered %v", fault)
		}
	}()
	guard(&reader{}, func() int { panic("foreign") })
}
