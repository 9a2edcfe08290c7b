package value

import (
	"slices"
	"strconv"
	"strings"

	"taxirank/api"
	"taxirank/real"
	"taxirank/scan"
)

// kind is what each kind of type does in its own way.
type kind interface {
	right() bool
	canon(s string) (string, bool) // of a type that is right
	print() string
}

// Kinds of types: what is told of them alone.
type (
	boolKind struct{ plain bool }
	intKind  struct {
		least, most string
		plain       bool
	}
	realKind struct {
		least, most string
		plain       bool
	}
	enumKind struct {
		names []string
		plain bool
	}
	textKind struct{ plain bool }
)

// of is a type as its kind; nil, if there is none. It is plain, if all fields that the kind has not are empty.
func of(t Type) kind {
	unbound := t.Least == "" && t.Most == ""
	unnamed := len(t.Names) == 0
	switch t.Kind {
	case Bool:
		return boolKind{unbound && unnamed}
	case Int:
		return intKind{t.Least, t.Most, unnamed}
	case Real:
		return realKind{t.Least, t.Most, unnamed}
	case Enum:
		return enumKind{t.Names, unbound}
	case Text:
		return textKind{unbound && unnamed}
	}
	return nil
}

func (k boolKind) right() bool { return k.plain }

func (k boolKind) canon(s string) (string, bool) {
	switch scan.Fold(s) {
	case "on", "true", "yes", "1":
		return "on", true
	case "off", "false", "no", "0":
		return "off", true
	}
	return "", false
}

func (k boolKind) print() string { return "bool" }

func (k intKind) right() bool {
	least, ok := whole(k.least)
	most, okToo := whole(k.most)
	if !k.plain || !ok || !okToo || least > most {
		return false
	}
	return strconv.Itoa(least) == k.least && strconv.Itoa(most) == k.most
}

func (k intKind) canon(s string) (string, bool) {
	n, ok := whole(s)
	least, _ := whole(k.least)
	most, _ := whole(k.most)
	if !ok || n < least || n > most {
		return "", false
	}
	return strconv.Itoa(n), true
}

func (k intKind) print() string { return "int " + k.least + " " + k.most }

// whole is the int that s says: a sign, or none, and 1 to 9 digits.
func whole(s string) (int, bool) {
	digits := s
	if s != "" && (s[0] == '+' || s[0] == '-') {
		digits = s[1:]
	}
	if len(digits) < 1 || len(digits) > maxDigits || strings.Trim(digits, "0123456789") != "" {
		return 0, false
	}
	n, err := strconv.Atoi(s)
	return n, err == nil
}

func (k realKind) right() bool {
	if !k.plain || !ownForm(k.least) || !ownForm(k.most) {
		return false
	}
	n, e := real.Cmp(k.least, k.most)
	return e == api.OK && n <= 0
}

// ownForm tells whether s is a real in its form.
func ownForm(s string) bool {
	f, e := real.Canon(s)
	return e == api.OK && f == s
}

func (k realKind) canon(s string) (string, bool) {
	if ok, e := real.Between(s, k.least, k.most); e != api.OK || !ok {
		return "", false
	}
	f, e := real.Canon(s)
	return f, e == api.OK
}

func (k realKind) print() string { return "real " + k.least + " " + k.most }

func (k enumKind) right() bool {
	if !k.plain || len(k.names) < 1 || len(k.names) > MaxNames {
		return false
	}
	for i, n := range k.names {
		if !nameOfOne(n) || slices.Contains(k.names[:i], n) {
			return false
		}
	}
	return true
}

// nameOfOne tells whether s may be a name of an Enum: letters a to z.
func nameOfOne(s string) bool {
	return len(s) >= 1 && len(s) <= maxNameBytes && strings.Trim(s, "abcdefghijklmnopqrstuvwxyz") == ""
}

func (k enumKind) canon(s string) (string, bool) {
	s = scan.Fold(s)
	if !slices.Contains(k.names, s) {
		return "", false
	}
	return s, true
}

func (k enumKind) print() string { return "enum " + strings.Join(k.names, "|") }

func (k textKind) right() bool { return k.plain }

func (k textKind) canon(s string) (string, bool) {
	if strings.IndexByte(s, 0) >= 0 {
		return "", false
	}
	return s, true
}

func (k textKind) print() string { return "text" }
