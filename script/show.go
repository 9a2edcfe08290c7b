package script

import (
	"strconv"
	"strings"

	"taxirank/api"
	"taxirank/msg"
	"taxirank/wire"
)

// Show is a server's bytes, message by message.
func Show(b string) []string {
	var out []string
	for b != "" {
		f, behind, e := wire.Take(b, false)
		m, wrong := msg.Decode(true, f)
		if e != api.OK || wrong != api.OK {
			return append(out, "?")
		}
		out = append(out, shown(m))
		b = behind
	}
	return out
}

// shown is a message in words.
func shown(m msg.Msg) string {
	l := []string{string(rune(m.Kind))}
	for _, text := range m.Texts {
		l = append(l, plain(text))
	}
	for _, n := range m.Nums {
		l = append(l, strconv.Itoa(n))
	}
	return strings.Join(l, " ")
}

// plain is a text without bytes that could not be seen.
func plain(s string) string {
	if s == "" {
		return "-"
	}
	var b strings.Builder
	for _, c := range []byte(s) {
		if c < 33 || c > 126 || c == '\\' {
			b.WriteByte('\\')
			b.WriteString(strconv.Itoa(1000 + int(c))[1:])
		} else {
			b.WriteByte(c)
		}
	}
	return b.String()
}
