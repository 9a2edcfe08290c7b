package catalog

import (
	"strings"

	"taxirank/api"
	"taxirank/names"
	"taxirank/value"
)

// reported stands behind the default of a setting that is.
const reported = " report"

// Print writes a catalog.
func Print(c []Setting) (string, api.Errno) {
	if !Right(c) {
		return "", api.ErrArg
	}
	var b strings.Builder
	for _, s := range c {
		b.WriteString(s.line())
	}
	return b.String(), api.OK
}

// line is a setting as it is written, of one that is right.
func (s Setting) line() string {
	kind, _ := value.Print(s.Type)
	line := s.Name + ": " + kind + " = " + names.Literal(s.Default)
	if s.Report {
		line += reported
	}
	return line + "\n"
}

// Parse reads a catalog: one that is written just so.
func Parse(s string) ([]Setting, api.Errno) {
	var c []Setting
	for line := range strings.Lines(s) {
		if len(c) == MaxSettings {
			return nil, api.ErrForm
		}
		c = append(c, written(line))
	}
	p, e := Print(c)
	if e != api.OK || p != s {
		return nil, api.ErrForm
	}
	return c, api.OK
}

// written is the setting that a line is written as, if it is one.
func written(line string) Setting {
	line = strings.TrimSuffix(line, "\n")
	name, rest, _ := strings.Cut(line, ": ")
	kind, quoted, _ := strings.Cut(rest, " = ")
	quoted, report := strings.CutSuffix(quoted, reported)
	t, _ := value.Parse(kind)
	return Setting{Name: name, Type: t, Default: unquote(quoted), Report: report}
}

// unquote is what is said by a value that stands between two marks.
func unquote(s string) string {
	s = strings.TrimPrefix(strings.TrimSuffix(s, "'"), "'")
	return strings.ReplaceAll(s, "''", "'")
}
