package json

import (
	"strconv"
	"strings"

	"muniment/api"
)

// The bytes that have an escape of one letter, and these letters, in the same order. (A / has one too, that is only read.)
const (
	escaped = "\"\\\b\t\n\f\r"
	letters = "\"\\btnfr"
)

const hexDigits = "0123456789abcdef"

// A printer is a Builder that knows values, too.
type printer struct {
	strings.Builder
}

// Print answers v's text.
func Print(v api.Value) (string, api.Errno) {
	if !Formed(v) {
		return "", api.ErrForm
	}
	var p printer
	p.value(v)
	return p.String(), api.OK
}

func (p *printer) value(v api.Value) {
	switch v.Kind {
	case api.Null:
		p.WriteString("null")
	case api.False:
		p.WriteString("false")
	case api.True:
		p.WriteString("true")
	case api.Int:
		p.WriteString(strconv.FormatInt(v.N, 10))
	case api.String:
		p.quoted(v.Text)
	case api.Array:
		p.array(v)
	case api.Object:
		p.object(v)
	}
}

func (p *printer) array(v api.Value) {
	p.WriteByte('[')
	for i, item := range v.Items {
		p.comma(i)
		p.value(item)
	}
	p.WriteByte(']')
}

func (p *printer) object(v api.Value) {
	p.WriteByte('{')
	for i, item := range v.Items {
		p.comma(i)
		p.quoted(v.Names[i])
		p.WriteByte(':')
		p.value(item)
	}
	p.WriteByte('}')
}

func (p *printer) comma(i int) {
	if i > 0 {
		p.WriteByte(',')
	}
}

func (p *printer) quoted(s string) {
	p.WriteByte('"')
	for i := range len(s) {
		p.char(s[i])
	}
	p.WriteByte('"')
}

func (p *printer) char(c byte) {
	i := strings.IndexByte(escaped, c)
	switch {
	case i >= 0:
		p.WriteByte('\\')
		p.WriteByte(letters[i])
	case c < ' ':
		p.WriteString(`\u00`)
		p.WriteByte(hexDigits[c/16])
		p.WriteByte(hexDigits[c%16])
	default:
		p.WriteByte(c)
	}
}
