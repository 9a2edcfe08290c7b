package frames

import (
	"slices"

	"taxirank/api"
	"taxirank/catalog"
	"taxirank/parse"
	"taxirank/vars"
)

// work is a command at work on a session, that is thrown away if it errs.
type work struct {
	c []catalog.Setting
	m parse.Command
	s Session
}

// command is what does the command, in the session's status.
func (w *work) command() func() Reply {
	switch w.m.Kind {
	case parse.Commit:
		return w.commit
	case parse.Rollback:
		return w.rollback
	case parse.RollbackTo:
		return w.rollbackTo
	case parse.Empty:
		return w.nothing
	}
	do := w.unlessFailed()
	switch {
	case do == nil:
		return w.wrong
	case w.s.Status == failed:
		return w.notNow
	}
	return do
}

// unlessFailed is what does a command that a failed transaction does not; nil, if there is none.
func (w *work) unlessFailed() func() Reply {
	switch w.m.Kind {
	case parse.Set:
		return w.set
	case parse.SetLocal:
		return w.setLocal
	case parse.Reset:
		return w.reset
	case parse.ResetAll:
		return w.resetAll
	case parse.Discard:
		return w.discard
	case parse.Begin:
		return w.begin
	case parse.Savepoint:
		return w.savepoint
	case parse.Release:
		return w.release
	case parse.Show:
		return w.show
	case parse.Other:
		return w.other
	}
	return nil
}

func (w *work) nothing() Reply { return Reply{} }

func (w *work) notNow() Reply { return Reply{Err: api.ErrState} }

func (w *work) wrong() Reply { return Reply{Err: api.ErrForm} }

// top is the last level. (What says it is in a transaction, but has no level, is no session; it must not panic.)
func (w *work) top() *Level {
	if len(w.s.Levels) == 0 {
		w.s.Levels = []Level{{Set: slices.Clone(w.s.Base)}}
	}
	return &w.s.Levels[len(w.s.Levels)-1]
}

// point is where the last savepoint of the command's name stands; 0, if there is none.
func (w *work) point() int {
	for i := len(w.s.Levels) - 1; i > 0; i-- {
		if w.s.Levels[i].Name == w.m.Name {
			return i
		}
	}
	return 0
}

func (w *work) set() Reply {
	v, e := catalog.Canon(w.c, w.m.Name, w.m.Value)
	if e != api.OK {
		return Reply{Err: e}
	}
	if w.s.Status == within {
		top := w.top()
		top.Set = w.assigned(top.Set, v)
		top.Local = vars.Drop(top.Local, w.m.Name)
	} else {
		w.s.Base = w.assigned(w.s.Base, v)
	}
	return Reply{Tag: "SET"}
}

// assigned is l with the command's name set to v: a default is not kept.
func (w *work) assigned(l []catalog.Pair, v string) []catalog.Pair {
	if s, _ := catalog.Find(w.c, w.m.Name); v == s.Default {
		return vars.Drop(l, w.m.Name)
	}
	return vars.Put(l, w.m.Name, v)
}

func (w *work) setLocal() Reply {
	v, e := catalog.Canon(w.c, w.m.Name, w.m.Value)
	if e != api.OK {
		return Reply{Err: e}
	}
	if w.s.Status == within {
		top := w.top()
		top.Local = vars.Put(top.Local, w.m.Name, v)
	}
	return Reply{Tag: "SET"}
}

func (w *work) reset() Reply {
	if _, ok := catalog.Find(w.c, w.m.Name); !ok {
		return Reply{Err: api.ErrName}
	}
	if w.s.Status == within {
		top := w.top()
		top.Set = vars.Drop(top.Set, w.m.Name)
		top.Local = vars.Drop(top.Local, w.m.Name)
	} else {
		w.s.Base = vars.Drop(w.s.Base, w.m.Name)
	}
	return Reply{Tag: "RESET"}
}

func (w *work) resetAll() Reply {
	if w.s.Status == within {
		top := w.top()
		top.Set, top.Local = nil, nil
	} else {
		w.s.Base = nil
	}
	return Reply{Tag: "RESET"}
}

func (w *work) discard() Reply {
	if w.s.Status == within {
		return Reply{Err: api.ErrState}
	}
	w.s.Base = nil
	return Reply{Tag: "DISCARD ALL"}
}

func (w *work) begin() Reply {
	if w.s.Status != within {
		w.s.Status = within
		w.s.Levels = []Level{{Set: slices.Clone(w.s.Base)}}
	}
	return Reply{Tag: "BEGIN"}
}

// end leaves the transaction, with those vars behind it.
func (w *work) end(base []catalog.Pair) { w.s = Session{Status: outside, Base: base} }

func (w *work) commit() Reply {
	switch w.s.Status {
	case failed:
		return w.rollback()
	case within:
		w.end(w.top().Set)
	}
	return Reply{Tag: "COMMIT"}
}

func (w *work) rollback() Reply {
	if w.s.Status == within || w.s.Status == failed {
		w.end(w.s.Base)
	}
	return Reply{Tag: "ROLLBACK"}
}

func (w *work) savepoint() Reply {
	if w.s.Status != within {
		return w.notNow()
	}
	if len(w.s.Levels) >= MaxLevels {
		return Reply{Err: api.ErrFull}
	}
	level := w.top().copied(w.m.Name)
	w.s.Levels = append(w.s.Levels, level)
	return Reply{Tag: "SAVEPOINT"}
}

func (w *work) release() Reply {
	if w.s.Status != within {
		return w.notNow()
	}
	at := w.point()
	if at == 0 {
		return Reply{Err: api.ErrNone}
	}
	was := *w.top()
	w.s.Levels = w.s.Levels[:at]
	top := w.top()
	top.Set, top.Local = was.Set, was.Local
	return Reply{Tag: "RELEASE"}
}

func (w *work) rollbackTo() Reply {
	if w.s.Status != within && w.s.Status != failed {
		return w.notNow()
	}
	at := w.point()
	if at == 0 {
		return Reply{Err: api.ErrNone}
	}
	w.s.Levels = w.s.Levels[:at+1]
	w.s.Levels[at] = w.s.Levels[at-1].copied(w.m.Name)
	w.s.Status = within
	return Reply{Tag: "ROLLBACK"}
}

func (w *work) show() Reply {
	v, e := vars.Value(w.c, Effective(w.s), w.m.Name)
	if e != api.OK {
		return Reply{Err: e}
	}
	return Reply{Tag: "SHOW", Row: []string{v}}
}

func (w *work) other() Reply {
	if w.m.Name == "fail" {
		return Reply{Err: api.ErrArg}
	}
	return Reply{Tag: w.m.Name}
}
