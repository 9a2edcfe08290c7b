package parse

import (
	"strings"
	"testing"

	"taxirank/api"
	"taxirank/scan"
	"taxirank/split"
)

func table() map[string]Command {
	long := strings.Repeat("a", 64)
	return map[string]Command{
		"set mem to 5":                      {Set, "mem", "5"},
		"SET Mem = -5":                      {Set, "mem", "-5"},
		"set mem = + 5":                     {Set, "mem", "+5"},
		"set mem = 'It''s'":                 {Set, "mem", "It's"},
		"set mem = On":                      {Set, "mem", "on"},
		"set mem = ''":                      {Set, "mem", ""},
		"set mem = .5e3":                    {Set, "mem", ".5e3"},
		"set mem = 1E-5":                    {Set, "mem", "1E-5"},
		"set mem = -1e+5":                   {Set, "mem", "-1e+5"},
		"set mem = 1e":                      {Barred, "set", ""},
		"set mem = -1e":                     {Barred, "set", ""},
		"set local mem = 1e;":               {Barred, "set", ""},
		"set mem = 1e+":                     {Barred, "set", ""},
		"set mem = '1e'":                    {Set, "mem", "1e"},
		"set mem = 'default'":               {Set, "mem", "default"},
		"set app.mem = 5":                   {Set, "app.mem", "5"},
		`set "app"."mem" to 5`:              {Set, "app.mem", "5"},
		"set session mem = 5":               {Set, "mem", "5"},
		`set session "to" = 5`:              {Set, "to", "5"},
		"set session session = 5":           {Set, "session", "5"},
		"set session local = 5":             {Set, "local", "5"},
		"set session.x = 5":                 {Set, "session.x", "5"},
		"set session = 5":                   {Set, "session", "5"},
		"set session to 5":                  {Set, "session", "5"},
		"set to to to":                      {Set, "to", "to"},
		"set to = =":                        {Barred, "set", ""},
		`set "local" = 5`:                   {Set, "local", "5"},
		"set all = 5":                       {Set, "all", "5"},
		"set local mem to 5":                {SetLocal, "mem", "5"},
		"SET LOCAL Mem = -5;":               {SetLocal, "mem", "-5"},
		"set local session = 5":             {SetLocal, "session", "5"},
		"set local to = 5":                  {SetLocal, "to", "5"},
		"set local local = 5":               {SetLocal, "local", "5"},
		"set local = 5":                     {Barred, "set", ""},
		"set local to 5":                    {Barred, "set", ""},
		"set local.x = 5":                   {Barred, "set", ""},
		"set session local mem = 5":         {Barred, "set", ""},
		"set local session mem = 5":         {Barred, "set", ""},
		"set local mem = default":           {Barred, "set", ""},
		"set mem = default":                 {Reset, "mem", ""},
		"set session mem to DEFAULT":        {Reset, "mem", ""},
		`set mem = "default"`:               {Barred, "set", ""},
		"set":                               {Barred, "set", ""},
		"set mem":                           {Barred, "set", ""},
		"set mem =":                         {Barred, "set", ""},
		"set mem 5":                         {Barred, "set", ""},
		`set mem "to" 5`:                    {Barred, "set", ""},
		"set mem '=' 5":                     {Barred, "set", ""},
		"set mem = 5 6":                     {Barred, "set", ""},
		"set mem = - x":                     {Barred, "set", ""},
		"set mem = * 5":                     {Barred, "set", ""},
		"set mem = - - 5":                   {Barred, "set", ""},
		"set mem = 5,6":                     {Barred, "set", ""},
		`set mem = "x"`:                     {Barred, "set", ""},
		"set mem = default x":               {Barred, "set", ""},
		"set a.b.c = 5":                     {Barred, "set", ""},
		"set 'mem' = 5":                     {Barred, "set", ""},
		"set " + long + " = 5":              {Barred, "set", ""},
		"set session":                       {Barred, "set", ""},
		"reset mem":                         {Reset, "mem", ""},
		"reset app.mem":                     {Reset, "app.mem", ""},
		"reset all":                         {ResetAll, "", ""},
		"RESET ALL":                         {ResetAll, "", ""},
		`reset "all"`:                       {Reset, "all", ""},
		"reset all.x":                       {Reset, "all.x", ""},
		"reset":                             {Barred, "reset", ""},
		"reset all x":                       {Barred, "reset", ""},
		"reset mem x":                       {Barred, "reset", ""},
		"reset 'all'":                       {Barred, "reset", ""},
		"discard all":                       {Discard, "", ""},
		"discard":                           {Barred, "discard", ""},
		"discard plans":                     {Barred, "discard", ""},
		`discard "all"`:                     {Barred, "discard", ""},
		"discard all all":                   {Barred, "discard", ""},
		"begin":                             {Begin, "", ""},
		"begin work":                        {Begin, "", ""},
		"begin transaction":                 {Begin, "", ""},
		"begin work transaction":            {Barred, "begin", ""},
		"begin read only":                   {Barred, "begin", ""},
		`begin "work"`:                      {Barred, "begin", ""},
		"start transaction":                 {Begin, "", ""},
		"start":                             {Barred, "start", ""},
		"start work":                        {Barred, "start", ""},
		"start transaction work":            {Barred, "start", ""},
		"commit":                            {Commit, "", ""},
		"commit work":                       {Commit, "", ""},
		"end transaction":                   {Commit, "", ""},
		"end":                               {Commit, "", ""},
		"commit prepared 'x'":               {Barred, "commit", ""},
		"end x":                             {Barred, "end", ""},
		"rollback":                          {Rollback, "", ""},
		"rollback work":                     {Rollback, "", ""},
		"abort":                             {Rollback, "", ""},
		"abort transaction":                 {Rollback, "", ""},
		"rollback x":                        {Barred, "rollback", ""},
		"abort x":                           {Barred, "abort", ""},
		"savepoint a":                       {Savepoint, "a", ""},
		"savepoint A":                       {Savepoint, "a", ""},
		`savepoint "A b"`:                   {Savepoint, "A b", ""},
		"savepoint savepoint":               {Savepoint, "savepoint", ""},
		"savepoint":                         {Barred, "savepoint", ""},
		"savepoint 'a'":                     {Barred, "savepoint", ""},
		"savepoint a.b":                     {Barred, "savepoint", ""},
		"savepoint savepoint a":             {Barred, "savepoint", ""},
		"release a":                         {Release, "a", ""},
		"release savepoint a":               {Release, "a", ""},
		"release savepoint":                 {Release, "savepoint", ""},
		"release savepoint savepoint":       {Release, "savepoint", ""},
		`release "savepoint" a`:             {Barred, "release", ""},
		"release":                           {Barred, "release", ""},
		"release a b":                       {Barred, "release", ""},
		"rollback to a":                     {RollbackTo, "a", ""},
		"rollback to savepoint a":           {RollbackTo, "a", ""},
		"rollback to savepoint":             {RollbackTo, "savepoint", ""},
		"rollback work to a":                {RollbackTo, "a", ""},
		"abort transaction to savepoint to": {RollbackTo, "to", ""},
		"rollback to work":                  {RollbackTo, "work", ""},
		"rollback to":                       {Barred, "rollback", ""},
		"rollback to a b":                   {Barred, "rollback", ""},
		"rollback to work to a":             {Barred, "rollback", ""},
		"show mem":                          {Show, "mem", ""},
		"show app.Mem":                      {Show, "app.mem", ""},
		"show all":                          {Show, "all", ""},
		"show":                              {Barred, "show", ""},
		"show a b":                          {Barred, "show", ""},
		"show 'a'":                          {Barred, "show", ""},
		"listen x":                          {Barred, "listen", ""},
		"unlisten":                          {Barred, "unlisten", ""},
		"Prepare x":                         {Barred, "prepare", ""},
		"execute":                           {Barred, "execute", ""},
		"deallocate x":                      {Barred, "deallocate", ""},
		"declare x":                         {Barred, "declare", ""},
		"load 'x'":                          {Barred, "load", ""},
		"copy x":                            {Barred, "copy", ""},
		"Select 1":                          {Other, "select", ""},
		"fail":                              {Other, "fail", ""},
		`"set" mem = 5`:                     {Other, "set", ""},
		`"Copy"`:                            {Other, "Copy", ""},
		"'x'":                               {Other, "x", ""},
		"''":                                {Other, "", ""},
		"1.5":                               {Other, "1.5", ""},
		"1e5":                               {Other, "1e5", ""},
		"1e":                                {Other, "1", ""},
		"1e;":                               {Other, "1", ""},
		"(select)":                          {Other, "(", ""},
		"sets":                              {Other, "sets", ""},
		"":                                  {Empty, "", ""},
		" ;; /* */ --":                      {Empty, "", ""},
		"a;b":                               {Many, "", ""},
		"begin; commit; end":                {Many, "", ""},
	}
}

// C1: the table, what is barred, and all others.
func TestParse(t *testing.T) {
	for s, want := range table() {
		if m, e := Parse(s); m != want || e != api.OK {
			t.Errorf("Parse(%q) = %q, %v; want %q", s, m, e, want)
		}
	}
}

func TestErrors(t *testing.T) {
	for s, want := range map[string]api.Errno{"set mem = 'x": api.ErrForm, "\x00": api.ErrForm, strings.Repeat(" ", 2001): api.ErrLong} {
		if m, e := Parse(s); m != (Command{}) || e != want {
			t.Errorf("Parse(%.20q) = %q, %v", s, m, e)
		}
	}
}

// C1: the command of a statement's tokens.
func TestOf(t *testing.T) {
	if m := Of(split.Statement{}); m != (Command{Kind: Empty}) {
		t.Error(m)
	}
	for s, want := range table() {
		if st, ok, _ := split.One(s); ok && Of(st) != want {
			t.Error(s, Of(st))
		}
	}
	if m := Of(split.Statement{Tokens: []scan.Token{{Kind: 'x', Text: "set"}}}); m != (Command{Kind: Other, Name: "set"}) {
		t.Error(m)
	}
}

// C2: blanks, comments, a ; behind, and great letters in words, change nothing.
func TestDress(t *testing.T) {
	for s, want := range table() {
		l, _ := scan.Scan(s)
		dressed := "/* a */"
		for _, k := range l {
			text := scan.Fields([]scan.Token{k})
			if k.Kind == scan.Word {
				text = strings.ToUpper(text)
			}
			dressed += "\t" + text + " --;\n"
		}
		if m, e := Parse(dressed + ";"); m != want || e != api.OK {
			t.Errorf("Parse(%q) = %q, %v; want %q", dressed, m, e, want)
		}
	}
}
