package headers

import (
	"slices"
	"strings"
	"testing"

	"glacis/api"
	"glacis/octet"
	"glacis/samples"
)

const blanks = "\t\n\f\r "

func header(name, value string) api.Header { return api.Header{Name: name, Value: value} }

// valued is a head of a's alone.
func valued(values ...string) []api.Header {
	var l []api.Header
	for _, v := range values {
		l = append(l, header("a", v))
	}
	return l
}

func checkCheck(t *testing.T, l []api.Header, want api.Errno) {
	t.Helper()
	if err := Check(l); err != want {
		t.Errorf("Check(%q) = %d, not %d", l, err, want)
	}
}

// checkValues asks for the values, and for the one that they are together.
func checkValues(t *testing.T, l []api.Header, name string, want ...string) {
	t.Helper()
	if got := Values(l, name); !slices.Equal(got, want) {
		t.Errorf("Values(%q, %q) = %q, not %q", l, name, got, want)
	}
	checkCombined(t, l, name, strings.Join(want, ", "), len(want) > 0)
}

func checkCombined(t *testing.T, l []api.Header, name, want string, has bool) {
	t.Helper()
	if got, is := Combined(l, name); got != want || is != has {
		t.Errorf("Combined(%q, %q) = %q, %v, not %q, %v", l, name, got, is, want, has)
	}
}

func checkParts(t *testing.T, l []api.Header, name string, want ...string) {
	t.Helper()
	if got := Parts(l, name); !slices.Equal(got, want) {
		t.Errorf("Parts(%q, %q) = %q, not %q", l, name, got, want)
	}
}

// P7.1, P7.2: the chapter's examples.
func TestExamples(t *testing.T) {
	l := []api.Header{header("A", "x "), header("b", "y"), header("a", `"z,w", v`)}
	checkValues(t, l, "a", "x", `"z,w", v`)
	checkCombined(t, l, "a", `x, "z,w", v`, true)
	checkParts(t, l, "a", "x", `"z,w"`, "v")
	checkCheck(t, l, api.OK)
	checkCheck(t, []api.Header{header("a b", "x")}, api.ErrHeadForm)
	checkCheck(t, []api.Header{header("a", "\n")}, api.ErrHeadForm)
}

// P7.1: how many headers there may be, whatever they are.
func TestCheckCount(t *testing.T) {
	checkCheck(t, nil, api.OK)
	checkCheck(t, []api.Header{}, api.OK)
	for n := range 2*api.MaxHeaders + 1 {
		want := api.OK
		if n > api.MaxHeaders {
			want = api.ErrHeadForm
		}
		checkCheck(t, slices.Repeat([]api.Header{header("a", "x")}, n), want)
	}
	// With room for more, it is still the headers themselves that count.
	checkCheck(t, make([]api.Header, 0, api.MaxHeaders+1), api.OK)
}

// P7.1: one bad header is enough, wherever it stands.
func TestCheckEachPlace(t *testing.T) {
	for _, bad := range []api.Header{{}, header("", "x"), header("a ", "x"), header("a", "\r"), header("a", strings.Repeat("x", api.MaxField+1))} {
		for i := range api.MaxHeaders {
			l := slices.Repeat([]api.Header{header("a", "x")}, api.MaxHeaders)
			checkCheck(t, l, api.OK)
			l[i] = bad
			checkCheck(t, l, api.ErrHeadForm)
		}
	}
}

// P7.1: each byte of a name.
func TestCheckNameEachByte(t *testing.T) {
	const tokens = "ABCDEFGHIJKLMNOPQRSTUVWXYZabcdefghijklmnopqrstuvwxyz0123456789!#$%&'*+-.^_|~\x60"
	for _, c := range samples.Bytes() {
		want := api.ErrHeadForm
		if strings.Contains(tokens, c) {
			want = api.OK
		}
		for _, name := range []string{c, c + "a", "a" + c, "a" + c + "a"} {
			checkCheck(t, []api.Header{header(name, "x")}, want)
		}
	}
}

// P7.1: names as a whole; their length has no limit of its own.
func TestCheckNames(t *testing.T) {
	for _, name := range []string{"Content-Type", "x", "0", "x-1", strings.Repeat("x", api.MaxField+1)} {
		checkCheck(t, []api.Header{header(name, "")}, api.OK)
	}
	for _, name := range []string{"", " ", " x", "x ", "x:", "x y", ":status", "x\n", "é", "x\xff", "x,y", "\"x\""} {
		checkCheck(t, []api.Header{header(name, "")}, api.ErrHeadForm)
	}
}

// P7.1: each byte of a value, in a short one and in a long one.
func TestCheckValueEachByte(t *testing.T) {
	for i, c := range samples.Bytes() {
		want := api.OK
		if i == 0 || i == 10 || i == 13 {
			want = api.ErrHeadForm
		}
		long := strings.Repeat("x", 100)
		for _, v := range []string{c, c + "x", "x" + c, "x" + c + "x", `"` + c + `"`, c + long, long + c, long + c + long, "é" + c, "\xff" + c + "\xff"} {
			checkCheck(t, valued(v), want)
		}
	}
	checkCheck(t, valued("x\r\n"), api.ErrHeadForm)
	checkCheck(t, valued(""), api.OK)
}

// P7.1: the limit counts all bytes of a value, the blanks at its ends too; each value has one of its own.
func TestCheckValueLimit(t *testing.T) {
	for _, c := range []string{"x", " ", ",", `"`, "\xff"} {
		full := strings.Repeat(c, api.MaxField)
		checkCheck(t, valued(full), api.OK)
		checkCheck(t, valued(full, full, full), api.OK)
		checkCheck(t, valued(full+c), api.ErrHeadForm)
		checkCheck(t, valued("x", full+c), api.ErrHeadForm)
	}
	checkCheck(t, valued(" "+strings.Repeat("x", api.MaxField-1)+" "), api.ErrHeadForm)
	// Bytes are counted, not runes.
	checkCheck(t, valued(strings.Repeat("é", api.MaxField/2)), api.OK)
	checkCheck(t, valued(strings.Repeat("é", api.MaxField/2)+"x"), api.ErrHeadForm)
}

// P7.2: names that differ in the size of their letters are one name; others are others.
func TestNames(t *testing.T) {
	l := []api.Header{header("X-Y", "1"), header("x-y", "2"), header("x", "3"), header("X-y", "4"), header("X_Y", "5"), header("x-y ", "6"), header("", "7"), header("É", "8"), header("é", "9"), header("k", "10")}
	for _, name := range []string{"x-y", "X-Y", "x-Y"} {
		checkValues(t, l, name, "1", "2", "4")
		checkParts(t, l, name, "1", "2", "4")
	}
	checkValues(t, l, "X", "3")
	checkValues(t, l, "x_y", "5")
	// Check refuses such names, but Values asks only whether they are equal.
	checkValues(t, l, "X-Y ", "6")
	checkValues(t, l, "", "7")
	checkValues(t, l, "é", "9")
	checkValues(t, l, "\u212a")
	for _, name := range []string{"y", "x-", "-y", "x-y-z", " x-y"} {
		checkValues(t, l, name)
		checkParts(t, l, name)
	}
}

// P7.2: each two bytes as names.
func TestNamesEachPair(t *testing.T) {
	for _, a := range samples.Bytes() {
		for _, b := range samples.Bytes() {
			want := 0
			if octet.Fold(a, b) {
				want = 1
			}
			if got := len(Values([]api.Header{header(a, "x")}, b)); got != want {
				t.Errorf("%q asked by %q: %d values", a, b, got)
			}
		}
	}
}

// P7.2: no header of the name is another thing than an empty value.
func TestNoneAndEmpty(t *testing.T) {
	for _, l := range [][]api.Header{nil, {}, {header("b", "x")}} {
		checkValues(t, l, "a")
		checkCombined(t, l, "a", "", false)
		checkParts(t, l, "a")
	}
	for _, empty := range []string{"", " ", blanks} {
		checkValues(t, valued(empty), "a", "")
		checkCombined(t, valued(empty), "a", "", true)
		checkParts(t, valued(empty), "a", "")
	}
	checkValues(t, valued("", ""), "a", "", "")
	checkCombined(t, valued("", ""), "a", ", ", true)
	checkCombined(t, valued("", "x", ""), "a", ", x, ", true)
	checkParts(t, valued("", "x", ""), "a", "", "x", "")
}

// P7.2: the order is the one of the headers, and nothing is left out that comes twice.
func TestOrder(t *testing.T) {
	checkValues(t, valued("b", "a", "b", "c"), "a", "b", "a", "b", "c")
	checkCombined(t, valued("b", "a", "b"), "a", "b, a, b", true)
	checkParts(t, valued("b,a", "a", "c,b"), "a", "b", "a", "a", "c", "b")
	checkCombined(t, valued("b,a", ",", "c ,b"), "a", "b,a, ,, c ,b", true)
}

// P7.2: which bytes are taken off at the ends of a value and of a part; each byte is tried alone.
func TestBlanksEachByte(t *testing.T) {
	for _, c := range samples.Bytes() {
		around := c + c + "x" + c + "y" + c
		want := around
		if strings.Contains(blanks, c) {
			want = "x" + c + "y"
		}
		checkValues(t, valued(around), "a", want)
		if !strings.Contains(`",`, c) {
			checkParts(t, valued(around), "a", want)
			checkParts(t, valued(around+","+around), "a", want, want)
			checkParts(t, valued("x,"+around+",y"), "a", "x", want, "y")
		}
	}
	checkValues(t, valued(blanks+"x"+blanks+"y"+blanks), "a", "x"+blanks+"y")
	checkParts(t, valued(blanks+"x"+blanks+","+blanks+"y"+blanks), "a", "x", "y")
}

// P7.2: the parts of values.
func TestParts(t *testing.T) {
	for _, c := range []struct {
		value string
		want  []string
	}{
		{",", []string{"", ""}},
		{" , ", []string{"", ""}},
		{",,", []string{"", "", ""}},
		{"x,", []string{"x", ""}},
		{",x", []string{"", "x"}},
		{"x,y", []string{"x", "y"}},
		{"x y , z", []string{"x y", "z"}},
		{"x;y=1, z", []string{"x;y=1", "z"}},
		{"x, 'y,z'", []string{"x", "'y", "z'"}},
		{"(x,y)", []string{"(x", "y)"}},
		{"É,\xff,\x00", []string{"É", "\xff", "\x00"}},

		// quoted strings
		{`""`, []string{`""`}},
		{`","`, []string{`","`}},
		{`",",","`, []string{`","`, `","`}},
		{`"x,y",z`, []string{`"x,y"`, "z"}},
		{`z,"x,y"`, []string{"z", `"x,y"`}},
		{`x"y,z"w,v`, []string{`x"y,z"w`, "v"}},
		{`"x""y,z",w`, []string{`"x""y,z"`, "w"}},
		{`"x"",y"`, []string{`"x"",y"`}},
		{`"x",y"`, []string{`"x"`, `y"`}},
		{`" x , y " , z`, []string{`" x , y "`, "z"}},
		{`"x','y",z`, []string{`"x','y"`, "z"}},

		// a quoted string that no quote closes
		{`"`, []string{`"`}},
		{`"x,y`, []string{`"x,y`}},
		{`x,"y,z`, []string{"x", `"y,z`}},
		{`"x,y","z,w`, []string{`"x,y"`, `"z,w`}},
		{`"",",`, []string{`""`, `",`}},
		{`"x, `, []string{`"x,`}},

		// a backslash within a quoted string
		{`"\",",x`, []string{`"\","`, "x"}},
		{`"x\",y",z`, []string{`"x\",y"`, "z"}},
		{`"\\",x`, []string{`"\\"`, "x"}},
		{`"\\\",",x`, []string{`"\\\","`, "x"}},
		{`"\\\\",x`, []string{`"\\\\"`, "x"}},
		{`"\,",x`, []string{`"\,"`, "x"}},
		{`"\x,",y`, []string{`"\x,"`, "y"}},
		{`"\"`, []string{`"\"`}},
		{`"\",x`, []string{`"\",x`}},
		{`"x\`, []string{`"x\`}},
		{`"x,\`, []string{`"x,\`}},
		{`"\`, []string{`"\`}},
		{`"\\`, []string{`"\\`}},
		{`y,"\`, []string{"y", `"\`}},
		{`y,"\ `, []string{"y", `"\`}},

		// a backslash without them
		{`\`, []string{`\`}},
		{`x\`, []string{`x\`}},
		{`x\,`, []string{`x\`, ""}},
		{`x\,y`, []string{`x\`, "y"}},
		{`\\,y`, []string{`\\`, "y"}},
		{`\"x,y",z`, []string{`\"x,y"`, "z"}},
		{`"x"\,y`, []string{`"x"\`, "y"}},
		{`"x"\",y"`, []string{`"x"\",y"`}},
		{`\"\",",z`, []string{`\"\","`, "z"}},
		{`y,\`, []string{"y", `\`}},
	} {
		checkParts(t, valued(c.value), "a", c.want...)
	}
}

// P7.2: each value is scanned on its own: what one leaves open is not open in the next.
func TestPartsOfSeveral(t *testing.T) {
	checkParts(t, valued(`"x,y`, `z,w`), "a", `"x,y`, "z", "w")
	checkParts(t, valued(`"x,y`, `z",w`), "a", `"x,y`, `z",w`)
	checkParts(t, valued(`"x\`, `",y"`), "a", `"x\`, `",y"`)
	checkParts(t, valued("x,", ",y"), "a", "x", "", "", "y")
	l := []api.Header{header("A", "x,y"), header("b", `"`), header("a", "z,w")}
	checkParts(t, l, "a", "x", "y", "z", "w")
}

// P7.3: headers with other names change nothing, wherever they stand.
func TestOtherNames(t *testing.T) {
	own := valued("x", `"y,z", w`, "", "v,")
	for i := range len(own) + 1 {
		for _, other := range []api.Header{{}, header("b", "x,y"), header("aa", `"`), header("a ", "x"), header("", "x"), header("b", "\n")} {
			checkSame(t, slices.Insert(slices.Clone(own), i, other), own, "A")
			checkSame(t, slices.Insert(slices.Clone(own), i, other, other, other), own, "A")
		}
	}
}

// checkSame asks that a name has in l what it has in own.
func checkSame(t *testing.T, l, own []api.Header, name string) {
	t.Helper()
	checkValues(t, l, name, Values(own, name)...)
	checkParts(t, l, name, Parts(own, name)...)
}

// P7.3: two headers are, for Combined, as one whose value joins theirs. (That can't be so where the blanks of the one value are within the other, or a last value is empty: P7.2 then counts.)
func TestJoined(t *testing.T) {
	values := []string{"x", "x,y", `"x`, `y"`, `"x,y"`, `\`, ",", "x y", "\xff", "é"}
	for _, a := range values {
		for _, b := range values {
			want, _ := Combined(valued(a+", "+b), "a")
			checkCombined(t, valued(a, b), "a", want, true)
			checkCombined(t, valued(" "+a, b+"\t"), "a", want, true)
			for _, c := range values {
				checkCombined(t, valued(a, b, c), "a", want+", "+c, true)
				checkCombined(t, valued(a+", "+b, c), "a", want+", "+c, true)
			}
		}
	}
}

// R4: what is handed in stays as it is, up to its capacity, and an answer is nobody else's.
func TestNothingShared(t *testing.T) {
	room := append(make([]api.Header, 0, 9), header("A", " x,y "), header("b", "\n"), header("a", `"z,w", v`))
	l := room[:2]
	before := slices.Clone(room[:cap(room)])
	for _, ask := range []func([]api.Header, string) []string{Values, Parts} {
		first, second := ask(room, "a"), ask(room, "a")
		want := slices.Clone(first)
		clear(second[:cap(second)])
		if !slices.Equal(first, want) || !slices.Equal(ask(room, "a"), want) {
			t.Errorf("two answers share memory: %q, not %q", first, want)
		}
		ask(l, "a")
	}
	Check(l)
	Combined(l, "a")
	if !slices.Equal(room[:cap(room)], before) {
		t.Errorf("%q was changed to %q", before, room[:cap(room)])
	}
}

// R4: what is ranged over may be left early and used again.
func TestLeftEarly(t *testing.T) {
	each := named(valued("x", "y", "z"), "a")
	for range 2 {
		for value := range each {
			if value == "y" {
				break
			}
		}
	}
	if got := slices.Collect(each); !slices.Equal(got, []string{"x", "y", "z"}) {
		t.Errorf("%q", got)
	}
}

// R1: values that Check refuses for their length have parts, too, in a time that doesn't grow with the square of it.
func TestLong(t *testing.T) {
	const n = 1 << 20
	checkLong := func(value string, parts int) {
		t.Helper()
		if got := Parts(valued(value), "a"); len(got) != parts {
			t.Errorf("%d parts, not %d", len(got), parts)
		}
	}
	checkLong(strings.Repeat(",", n), n+1)
	checkLong(strings.Repeat("x,", n), n+1)
	checkLong(strings.Repeat(`"`, n)+",", 2)
	checkLong(strings.Repeat(`"`, n+1)+",", 1)
	checkLong(`"`+strings.Repeat(`\`, n)+`",`, 2)
	checkLong(`"`+strings.Repeat(`\`, n+1)+`",`, 1)
	checkLong(`"`+strings.Repeat(",", n), 1)
	if got := Values(slices.Repeat(valued("x"), n), "A"); len(got) != n {
		t.Errorf("%d values, not %d", len(got), n)
	}
}
