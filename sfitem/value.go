package sfitem

import (
	"strconv"
	"strings"

	"glacis/api"
)

// value is what an item and a parameter have alike: the Kind, Int and Text of api.Item and api.Param.
type value struct {
	kind int
	num  int
	text string
}

func truth(n int) value { return value{kind: api.SfBool, num: n} }

// written is the text of a value, if the value is valid: if that text is, as a whole, read as the same value. So what is read and what is written can't part ways.
func (v value) written() (string, bool) {
	text := v.raw()
	r := &reader{text}
	again, rest, err := guard(r, r.value)
	if err != api.OK || rest != "" || again != v {
		return "", false
	}
	return text, true
}

// raw is the text that a value would have if it were valid.
func (v value) raw() string {
	switch v.kind {
	case api.SfInt:
		return strconv.Itoa(v.num)
	case api.SfDecimal:
		return decimalText(v.num)
	case api.SfText:
		return `"` + strings.ReplaceAll(strings.ReplaceAll(v.text, `\`, `\\`), `"`, `\"`) + `"`
	case api.SfToken:
		return v.text
	case api.SfBytes:
		return ":" + v.text + ":"
	case api.SfBool:
		return "?" + strconv.Itoa(v.num)
	}
	return ""
}

// decimalText sets the dot among the digits rather than divide: the least int has no positive one.
func decimalText(thousandths int) string {
	digits, negative := strings.CutPrefix(strconv.Itoa(thousandths), "-")
	digits = strings.Repeat("0", max(0, partDigits+1-len(digits))) + digits
	dot := len(digits) - partDigits
	text := digits[:dot] + "." + digits[dot:dot+1] + strings.TrimRight(digits[dot+1:], "0")
	if negative {
		return "-" + text
	}
	return text
}

// paramText leaves out the value that a parameter without one has.
func paramText(p api.Param) (string, bool) {
	v := value{p.Kind, p.Int, p.Text}
	text, valid := v.written()
	_, rest, err := Key(p.Key)
	if !valid || err != api.OK || rest != "" {
		return "", false
	}
	if v == truth(1) {
		return ";" + p.Key, true
	}
	return ";" + p.Key + "=" + text, true
}
