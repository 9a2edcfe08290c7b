package msg

import (
	"strings"

	"taxirank/api"
	"taxirank/wire"
)

// reader takes a body's fields off it, and gathers what they say. What is not of the layout panics.
type reader struct {
	body  string
	texts []string
	nums  []int
}

// read is the message of a frame; ErrForm, if that is none.
func read(back bool, f wire.Frame) (m Msg, e api.Errno) {
	defer func() {
		if recover() != nil {
			m, e = Msg{}, api.ErrForm
		}
	}()
	layout, ok := Layout(back, f.Type)
	demand(ok)
	r := &reader{body: f.Body}
	if !back && f.Type == 0 && isCancel(f.Body) {
		layout = cancelLayout
	}
	for i := range len(layout) {
		r.field(layout[i])
	}
	demand(r.body == "")
	return Msg{Kind: f.Type, Texts: r.texts, Nums: r.nums}, api.OK
}

// isCancel tells whether the first number of a bare message's body is Cancel.
func isCancel(body string) bool {
	r := &reader{body: body}
	return len(body) >= 4 && r.signed(4) == Cancel
}

func (r *reader) field(kind byte) {
	switch kind {
	case 's':
		r.text()
	case 'b':
		r.keep(r.unsigned(1))
	case 'i':
		r.long()
	case 'p':
		r.pairs()
	case 'f':
		r.fields()
	case 'c':
		r.counted(r.short)
	case 'l':
		r.counted(r.long)
	case 'v':
		r.counted(r.value)
	case 'm':
		r.counted(r.name)
	}
}

// take takes n bytes off the body.
func (r *reader) take(n int) string {
	demand(len(r.body) >= n)
	s := r.body[:n]
	r.body = r.body[n:]
	return s
}

func (r *reader) unsigned(size int) int {
	n := 0
	for _, b := range []byte(r.take(size)) {
		n = n<<8 | int(b)
	}
	return n
}

func (r *reader) signed(size int) int {
	n, over := r.unsigned(size), 1<<(8*size)
	if n >= over/2 {
		n -= over
	}
	return n
}

func (r *reader) keep(n int) { r.nums = append(r.nums, n) }

func (r *reader) short() { r.keep(r.signed(2)) }

func (r *reader) long() { r.keep(r.signed(4)) }

func (r *reader) text() {
	n := strings.IndexByte(r.body, 0)
	demand(n >= 0)
	r.texts = append(r.texts, r.take(n))
	r.take(1)
}

// last takes off the byte 0 that ends a row, if that stands there.
func (r *reader) last() bool {
	demand(r.body != "")
	if r.body[0] != 0 {
		return false
	}
	r.take(1)
	return true
}

func (r *reader) pairs() {
	n := 0
	for !r.last() {
		r.text()
		n++
	}
	demand(n%2 == 0)
	r.keep(n)
}

func (r *reader) fields() {
	at, n := len(r.nums), 0
	r.keep(0)
	for !r.last() {
		r.keep(r.unsigned(1))
		r.text()
		n++
	}
	r.nums[at] = n
}

// counted reads how many there are, and each of them.
func (r *reader) counted(each func()) {
	n := r.signed(2)
	demand(0 <= n && n <= maxCount)
	r.keep(n)
	for range n {
		each()
	}
}

func (r *reader) value() {
	n := r.signed(4)
	demand(-1 <= n && n <= maxBytes)
	r.keep(n)
	if n >= 0 {
		r.texts = append(r.texts, r.take(n))
	}
}

func (r *reader) name() {
	r.text()
	demand(strings.Trim(r.take(nameTail), "\x00") == "")
}
