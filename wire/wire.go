// Package wire splits a stream of bytes into frames, and builds frames: layer 1: see shared/doc/01-wire.md.
package wire

import "taxirank/api"

// lengthSize is how many bytes a length has; it counts itself.
const lengthSize = 4

// Frame is a message as it stands on the wire; it is bare, if its Type is 0.
type Frame struct {
	Type byte
	Body string
}

// Reader reads frames of bytes that come piece by piece.
type Reader struct {
	left []byte
	bare bool      // is the next frame bare?
	end  api.Errno // the error behind which there is nothing more
}

// Pack writes a frame.
func Pack(f Frame) (string, api.Errno) {
	if len(f.Body) > api.MaxBody {
		return "", api.ErrLong
	}
	n := uint32(len(f.Body) + lengthSize)
	b := make([]byte, 0, 1+lengthSize+len(f.Body))
	if f.Type != 0 {
		b = append(b, f.Type)
	}
	b = append(b, byte(n>>24), byte(n>>16), byte(n>>8), byte(n))
	return string(append(b, f.Body...)), api.OK
}

// Take reads the frame that a text begins with, and tells what is behind it.
func Take(s string, bare bool) (Frame, string, api.Errno) {
	f, size, e := first(s, bare)
	if e != api.OK {
		return Frame{}, "", e
	}
	return f, s[size:], api.OK
}

// first is the frame that s begins with, and how many bytes it has.
func first[T string | []byte](s T, bare bool) (f Frame, size int, e api.Errno) {
	defer func() {
		if recover() != nil {
			f, size, e = Frame{}, 0, api.ErrMore
		}
	}()
	head := lengthSize
	if !bare {
		head++
	}
	b := ahead(s, head)
	n := number(b[head-lengthSize:])
	if !bare {
		f.Type = b[0]
	}
	if n < lengthSize || !bare && f.Type == 0 {
		return Frame{}, 0, api.ErrForm
	}
	if n > lengthSize+api.MaxBody {
		return Frame{}, 0, api.ErrLong
	}
	size = head + int(n) - lengthSize
	f.Body = string(ahead(s, size)[head:])
	return f, size, api.OK
}

// ahead is the first n bytes of s; it panics, if these are too few.
func ahead[T string | []byte](s T, n int) T {
	if len(s) < n {
		panic(api.ErrMore)
	}
	return s[:n]
}

// number is the number that the first four bytes of b are.
func number[T string | []byte](b T) uint32 {
	return uint32(b[0])<<24 | uint32(b[1])<<16 | uint32(b[2])<<8 | uint32(b[3])
}

// New is a reader of nothing.
func New(bare bool) *Reader { return &Reader{bare: bare} }

// Feed gives a reader bytes.
func (r *Reader) Feed(s string) {
	if r.end == api.OK {
		r.left = append(r.left, s...)
	}
}

// Next tells the next frame.
func (r *Reader) Next() (Frame, api.Errno) {
	if r.end != api.OK {
		return Frame{}, r.end
	}
	f, size, e := first(r.left, r.bare)
	switch e {
	case api.OK:
		r.bare = false
		r.drop(size)
	case api.ErrMore:
	default:
		r.end, r.left = e, nil
	}
	return f, e
}

// drop leaves the first n bytes behind; what is empty is let go, so that no more is kept than what is left.
func (r *Reader) drop(n int) {
	r.left = r.left[n:]
	if len(r.left) == 0 {
		r.left = nil
	}
}

// Left tells how many bytes were fed and not told.
func (r *Reader) Left() int { return len(r.left) }
