package parse

import (
	"taxirank/names"
	"taxirank/scan"
)

// command is that of a word and the tokens behind it; false, if that is none of the table.
func command(word string, l []scan.Token) (Command, bool) {
	switch word {
	case "set":
		return set(l)
	case "reset":
		if alone(l, "all") {
			return Command{Kind: ResetAll}, true
		}
		return named(Reset, l)
	case "discard":
		return Command{Kind: Discard}, alone(l, "all")
	case "start":
		if !alone(l, "transaction") {
			return Command{}, false
		}
		fallthrough
	case "begin":
		return Command{Kind: Begin}, len(work(l)) == 0
	case "end":
		fallthrough
	case "commit":
		return Command{Kind: Commit}, len(work(l)) == 0
	case "abort":
		fallthrough
	case "rollback":
		return rollback(work(l))
	case "savepoint":
		return point(Savepoint, l)
	case "release":
		return point(Release, savepoint(l))
	case "show":
		return named(Show, l)
	}
	return Command{}, false
}

// begins tells whether l begins with a word.
func begins(l []scan.Token, word string) bool {
	return len(l) > 0 && l[0].Kind == scan.Word && l[0].Text == word
}

// alone tells whether l is a word, and no more.
func alone(l []scan.Token, word string) bool { return len(l) == 1 && begins(l, word) }

// work is l behind a word that may be there or not.
func work(l []scan.Token) []scan.Token {
	if begins(l, "work") || begins(l, "transaction") {
		return l[1:]
	}
	return l
}

// savepoint is l behind a word that may be there or not; but alone that is the point's name.
func savepoint(l []scan.Token) []scan.Token {
	if len(l) > 1 && begins(l, "savepoint") {
		return l[1:]
	}
	return l
}

// named is a command of a name, and no more.
func named(kind byte, l []scan.Token) (Command, bool) {
	name, n := names.Take(l)
	return Command{Kind: kind, Name: name}, n > 0 && n == len(l)
}

// point is a command of a savepoint's name, and no more.
func point(kind byte, l []scan.Token) (Command, bool) {
	if len(l) != 1 || !isName(l[0]) {
		return Command{}, false
	}
	return Command{Kind: kind, Name: l[0].Text}, true
}

func isName(t scan.Token) bool { return t.Kind == scan.Word || t.Kind == scan.Name }

func rollback(l []scan.Token) (Command, bool) {
	if begins(l, "to") {
		return point(RollbackTo, savepoint(l[1:]))
	}
	return Command{Kind: Rollback}, len(l) == 0
}

func set(l []scan.Token) (Command, bool) {
	kind := byte(Set)
	switch {
	case begins(l, "local"):
		kind, l = SetLocal, l[1:]
	case begins(l, "session") && len(l) > 1 && isName(l[1]) && !begins(l[1:], "to"):
		l = l[1:]
	}
	name, n := names.Take(l)
	if n == 0 || n == len(l) || !assigns(l[n]) {
		return Command{}, false
	}
	l = l[n+1:]
	if alone(l, "default") {
		return Command{Kind: Reset, Name: name}, kind == Set
	}
	v, ok := value(l)
	return Command{Kind: kind, Name: name, Value: v}, ok
}

// assigns tells whether a token stands between a name and a value.
func assigns(t scan.Token) bool {
	return t.Kind == scan.Word && t.Text == "to" || t.Kind == scan.Sign && t.Text == "="
}

// value is that which l is.
func value(l []scan.Token) (string, bool) {
	switch len(l) {
	case 1:
		k := l[0].Kind
		return l[0].Text, k == scan.Text || k == scan.Word || k == scan.Number
	case 2:
		sign := l[0].Kind == scan.Sign && (l[0].Text == "-" || l[0].Text == "+")
		return l[0].Text + l[1].Text, sign && l[1].Kind == scan.Number
	}
	return "", false
}
