package msg

import (
	"strings"

	"taxirank/api"
)

// writer puts a message's texts and numbers, in order, into a body. What does not fit the layout panics.
type writer struct {
	texts []string
	nums  []int
	body  []byte
}

// write is the body of a message; ErrArg, if that is not of its layout.
func write(back bool, m Msg) (body string, e api.Errno) {
	defer func() {
		if recover() != nil {
			body, e = "", api.ErrArg
		}
	}()
	layout, ok := Layout(back, m.Kind)
	demand(ok)
	if !back && m.Kind == 0 && len(m.Nums) > 0 && m.Nums[0] == Cancel {
		layout = cancelLayout
	}
	w := &writer{texts: m.Texts, nums: m.Nums}
	for i := range len(layout) {
		w.field(layout[i])
	}
	demand(len(w.texts) == 0 && len(w.nums) == 0)
	return string(w.body), api.OK
}

// demand panics, if what is demanded is not so.
func demand(ok bool) {
	if !ok {
		panic(api.ErrForm)
	}
}

func (w *writer) field(kind byte) {
	switch kind {
	case 's':
		w.text()
	case 'b':
		w.number(0, 255, 1)
	case 'i':
		w.long()
	case 'p':
		w.pairs()
	case 'f':
		w.fields()
	case 'c':
		w.counted(w.short)
	case 'l':
		w.counted(w.long)
	case 'v':
		w.counted(w.value)
	case 'm':
		w.counted(w.name)
	}
}

// nextText takes the next text off the row.
func (w *writer) nextText() string {
	demand(len(w.texts) > 0)
	s := w.texts[0]
	w.texts = w.texts[1:]
	return s
}

// nextNum takes the next number off the row.
func (w *writer) nextNum(least, most int) int {
	demand(len(w.nums) > 0)
	n := w.nums[0]
	demand(least <= n && n <= most)
	w.nums = w.nums[1:]
	return n
}

// number writes the next number in so many bytes.
func (w *writer) number(least, most, size int) int {
	n := w.nextNum(least, most)
	for i := size - 1; i >= 0; i-- {
		w.body = append(w.body, byte(n>>(8*i)))
	}
	return n
}

func (w *writer) short() { w.number(-1<<15, 1<<15-1, 2) }

func (w *writer) long() { w.number(-1<<31, 1<<31-1, 4) }

func (w *writer) zero() { w.body = append(w.body, 0) }

func (w *writer) text() {
	s := w.nextText()
	demand(strings.IndexByte(s, 0) < 0)
	w.body = append(w.body, s...)
	w.zero()
}

func (w *writer) pairs() {
	n := w.nextNum(0, len(w.texts))
	demand(n%2 == 0)
	for range n {
		demand(w.texts[0] != "")
		w.text()
	}
	w.zero()
}

func (w *writer) fields() {
	n := w.nextNum(0, len(w.texts))
	for range n {
		w.number(1, 255, 1)
		w.text()
	}
	w.zero()
}

// counted writes how many there are, and each of them.
func (w *writer) counted(each func()) {
	n := w.number(0, maxCount, 2)
	for range n {
		each()
	}
}

func (w *writer) value() {
	n := w.number(-1, maxBytes, 4)
	if n < 0 {
		return
	}
	s := w.nextText()
	demand(len(s) == n)
	w.body = append(w.body, s...)
}

func (w *writer) name() {
	w.text()
	for range nameTail {
		w.zero()
	}
}
