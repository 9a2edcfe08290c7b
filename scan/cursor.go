package scan

import (
	"strings"

	"taxirank/api"
)

// cursor is a place in a text that is scanned. What has no end, or is not as it must be, panics.
type cursor struct {
	s  string
	at int
}

// tokens is the tokens of s; ErrForm, if it has others.
func tokens(s string) (l []Token, e api.Errno) {
	defer func() {
		if recover() != nil {
			l, e = nil, api.ErrForm
		}
	}()
	demand(strings.IndexByte(s, 0) < 0)
	c := &cursor{s: s}
	for c.skip(); c.more(); c.skip() {
		from := c.at
		kind, text := c.token()
		l = append(l, Token{Kind: kind, Text: text, From: from, To: c.at})
	}
	return l, api.OK
}

// demand panics, if what is demanded is not so.
func demand(ok bool) {
	if !ok {
		panic(api.ErrForm)
	}
}

func (c *cursor) more() bool { return c.at < len(c.s) }

// peek is the byte that is n behind the place; 0, if there is none.
func (c *cursor) peek(n int) byte {
	if c.at+n >= len(c.s) {
		return 0
	}
	return c.s[c.at+n]
}

// ahead tells whether s stands at the place.
func (c *cursor) ahead(s string) bool { return strings.HasPrefix(c.s[c.at:], s) }

// skip goes on behind blanks and comments.
func (c *cursor) skip() {
	for c.more() {
		switch {
		case strings.IndexByte(" \t\n\r", c.s[c.at]) >= 0:
			c.at++
		case c.ahead("--"):
			c.line()
		case c.ahead("/*"):
			c.block()
		default:
			return
		}
	}
}

// line goes on behind a comment that ends with its line.
func (c *cursor) line() {
	n := strings.IndexByte(c.s[c.at:], '\n')
	if n < 0 {
		n = len(c.s) - c.at
	}
	c.at += n
}

// block goes on behind a comment that is closed, and those in it.
func (c *cursor) block() {
	depth := 0
comment:
	for {
		demand(c.more())
		switch {
		case c.ahead("/*"):
			depth++
			demand(depth <= MaxNest)
			c.at += 2
		case c.ahead("*/"):
			depth--
			c.at += 2
			if depth == 0 {
				break comment
			}
		default:
			c.at++
		}
	}
}

// token goes on behind a token, and tells its kind, and its text.
func (c *cursor) token() (byte, string) {
	b := c.peek(0)
	switch {
	case (b == 'e' || b == 'E') && c.peek(1) == '\'':
		c.at++
		return Text, c.quoted('\'', true)
	case beginsWord(b):
		return Word, Fold(c.word())
	case b == '"':
		s := c.quoted('"', false)
		demand(s != "")
		return Name, s
	case b == '\'':
		return Text, c.quoted('\'', false)
	case digit(b), b == '.' && digit(c.peek(1)):
		return Number, c.number()
	}
	if tag := c.tag(); tag != "" {
		return Text, c.tagged(tag)
	}
	c.at++
	return Sign, string(rune(b))
}

func beginsWord(b byte) bool {
	return 'a' <= b && b <= 'z' || 'A' <= b && b <= 'Z' || b == '_' || b >= 128
}

func digit(b byte) bool { return '0' <= b && b <= '9' }

func (c *cursor) word() string {
	from := c.at
	for beginsWord(c.peek(0)) || digit(c.peek(0)) || c.peek(0) == '$' {
		c.at++
	}
	return c.s[from:c.at]
}

func (c *cursor) number() string {
	from := c.at
	for {
		b := c.peek(0)
		switch {
		case digit(b), b == '.':
			c.at++
		case c.exponent() > 0:
			c.at += c.exponent()
		default:
			return c.s[from:c.at]
		}
	}
}

// exponent is how many bytes an e and its sign are; 0, if no digit is behind: then the e begins a token of its own.
func (c *cursor) exponent() int {
	if c.peek(0) != 'e' && c.peek(0) != 'E' {
		return 0
	}
	n := 1
	if c.peek(n) == '+' || c.peek(n) == '-' {
		n++
	}
	if !digit(c.peek(n)) {
		return 0
	}
	return n
}

// quoted goes on behind what stands between two marks, and tells what that says.
func (c *cursor) quoted(mark byte, escapes bool) string {
	var b []byte
	for c.at++; ; c.at++ {
		demand(c.more())
		x := c.s[c.at]
		switch {
		case escapes && x == '\\':
			c.at++
			demand(c.more())
			x = escaped(c.s[c.at])
		case x == mark && c.peek(1) == mark:
			c.at++
		case x == mark:
			c.at++
			return string(b)
		}
		b = append(b, x)
	}
}

// escaped is what a byte behind a \ stands for.
func escaped(b byte) byte {
	switch b {
	case 'n':
		return '\n'
	case 't':
		return '\t'
	case 'r':
		return '\r'
	}
	return b
}

// tag is the tag that stands at the place, if one does.
func (c *cursor) tag() string {
	if c.peek(0) != '$' {
		return ""
	}
	n := 1
	for beginsWord(c.peek(n)) || n > 1 && digit(c.peek(n)) {
		n++
	}
	if c.peek(n) != '$' {
		return ""
	}
	return c.s[c.at : c.at+n+1]
}

// tagged goes on behind what stands between two of one tag, and tells it.
func (c *cursor) tagged(tag string) string {
	from := c.at + len(tag)
	n := strings.Index(c.s[from:], tag)
	demand(n >= 0)
	c.at = from + n + len(tag)
	return c.s[from : from+n]
}
