package wire

import (
	"strings"
	"testing"

	"taxirank/api"
)

// W1: how a frame stands, for frames with a Type and bare ones, up to the longest one.
func TestPackAndTake(t *testing.T) {
	long := strings.Repeat("x", api.MaxBody)
	for _, c := range []struct {
		f Frame
		s string
	}{
		{Frame{'Q', "a"}, "Q\x00\x00\x00\x05a"},
		{Frame{'S', ""}, "S\x00\x00\x00\x04"},
		{Frame{0, ""}, "\x00\x00\x00\x04"},
		{Frame{0, "ab"}, "\x00\x00\x00\x06ab"},
		{Frame{255, "\x00\xff"}, "\xff\x00\x00\x00\x06\x00\xff"},
		{Frame{'d', strings.Repeat("y", 300)}, "d\x00\x00\x01\x30" + strings.Repeat("y", 300)},
		{Frame{'d', long}, "d\x00\x00\x27\x14" + long},
		{Frame{0, long}, "\x00\x00\x27\x14" + long},
	} {
		if s, e := Pack(c.f); s != c.s || e != api.OK {
			t.Errorf("Pack(%d, %d bytes) = %q, %v", c.f.Type, len(c.f.Body), s, e)
		}
		for _, behind := range []string{"", "z", c.s} {
			f, rest, e := Take(c.s+behind, c.f.Type == 0)
			if f != c.f || rest != behind || e != api.OK {
				t.Errorf("Take(%q) = %v, %q, %v", c.s+behind, f, rest, e)
			}
		}
	}
}

func TestPackTooLong(t *testing.T) {
	for _, kind := range []byte{0, 'Q'} {
		if s, e := Pack(Frame{kind, strings.Repeat("x", api.MaxBody+1)}); s != "" || e != api.ErrLong {
			t.Error(kind, len(s), e)
		}
	}
}

// W1: the errors, in the order in which the promise names them.
func TestTakeErrors(t *testing.T) {
	for _, c := range []struct {
		s    string
		bare bool
		e    api.Errno
	}{
		{"", false, api.ErrMore},
		{"", true, api.ErrMore},
		{"\x00\x00\x00", true, api.ErrMore},
		{"Q\x00\x00\x00", false, api.ErrMore},
		{"\x00\x00\x00\x00", false, api.ErrMore},
		{"Q\x00\x00\x00\x05", false, api.ErrMore},
		{"\x00\x00\x00\x05", true, api.ErrMore},
		{"Q\x00\x00\x00\x03abc", false, api.ErrForm},
		{"Q\x00\x00\x00\x00", false, api.ErrForm},
		{"\x00\x00\x00\x03", true, api.ErrForm},
		{"\x00\x00\x00\x00\x04", false, api.ErrForm},
		{"\x00\xff\xff\xff\xff", false, api.ErrForm},
		{"Q\x00\x00\x27\x15", false, api.ErrLong},
		{"\x00\x00\x27\x15", true, api.ErrLong},
		{"Q\x00\x00\x27\x15" + strings.Repeat("x", 10001), false, api.ErrLong},
		{"Q\x80\x00\x00\x00", false, api.ErrLong},
		{"Q\xff\xff\xff\xff", false, api.ErrLong},
		{"Q\x00\x00\x27\x14" + strings.Repeat("x", 9999), false, api.ErrMore},
	} {
		if f, rest, e := Take(c.s, c.bare); f != (Frame{}) || rest != "" || e != c.e {
			t.Errorf("Take(%q, %v) = %v, %q, %v", c.s, c.bare, f, rest, e)
		}
	}
}

// W2: a reader tells frames as they become whole; only the first one may be bare.
func TestReader(t *testing.T) {
	r := New(true)
	if f, e := r.Next(); f != (Frame{}) || e != api.ErrMore || r.Left() != 0 {
		t.Error(f, e, r.Left())
	}
	r.Feed("\x00\x00\x00\x06a")
	for range 2 {
		if f, e := r.Next(); f != (Frame{}) || e != api.ErrMore || r.Left() != 5 {
			t.Error(f, e, r.Left())
		}
	}
	r.Feed("bQ\x00\x00\x00\x05")
	r.Feed("cX\x00\x00\x00")
	if r.Left() != 16 {
		t.Error(r.Left())
	}
	for _, want := range []Frame{{0, "ab"}, {'Q', "c"}} {
		if f, e := r.Next(); f != want || e != api.OK {
			t.Error(f, e)
		}
	}
	if f, e := r.Next(); f != (Frame{}) || e != api.ErrMore || r.Left() != 4 {
		t.Error(f, e, r.Left())
	}
}

func TestReaderNotBare(t *testing.T) {
	r := New(false)
	r.Feed("Q\x00\x00\x00\x04X\x00\x00\x00\x04")
	for _, want := range []Frame{{Type: 'Q'}, {Type: 'X'}} {
		if f, e := r.Next(); f != want || e != api.OK {
			t.Error(f, e)
		}
	}
}

// W2: behind ErrForm or ErrLong there is that error alone.
func TestReaderEnds(t *testing.T) {
	for _, c := range []struct {
		s string
		e api.Errno
	}{
		{"Q\x00\x00\x00\x03more", api.ErrForm},
		{"\x00\x00\x00\x00\x04more", api.ErrForm},
		{"Q\x00\x00\x27\x15more", api.ErrLong},
	} {
		r := New(false)
		r.Feed("S\x00\x00\x00\x04" + c.s)
		if f, e := r.Next(); f.Type != 'S' || e != api.OK || r.Left() != len(c.s) {
			t.Error(f, e, r.Left())
		}
		for range 3 {
			if f, e := r.Next(); f != (Frame{}) || e != c.e || r.Left() != 0 {
				t.Errorf("%q: %v %v %d", c.s, f, e, r.Left())
			}
			r.Feed("Q\x00\x00\x00\x04")
			if r.Left() != 0 {
				t.Error("fed behind an error", r.Left())
			}
		}
	}
}

// read is all that a reader tells of bytes that come in pieces of n, and the error at the end.
func read(s string, bare bool, n int) ([]Frame, api.Errno) {
	r := New(bare)
	var l []Frame
	for {
		f, e := r.Next()
		switch {
		case e == api.OK:
			l = append(l, f)
		case e != api.ErrMore || s == "":
			return l, e
		default:
			k := min(n, len(s))
			r.Feed(s[:k])
			s = s[k:]
		}
	}
}

// W3: however bytes are cut, the frames are the same.
func TestCuts(t *testing.T) {
	s := ""
	for i, f := range []Frame{{0, "hello"}, {'Q', ""}, {'p', "\x00\x00\x00\x04"}, {'Q', strings.Repeat("ab", 50)}} {
		p, e := Pack(f)
		if e != api.OK {
			t.Fatal(i, e)
		}
		s += p
	}
	for _, tail := range []string{"", "Q\x00", "Q\x00\x00\x00\x01z", "Q\x01\x00\x00\x01z"} {
		want, wantErr := read(s+tail, true, len(s+tail))
		if len(want) != 4 {
			t.Fatal(len(want))
		}
		for n := 1; n < 40; n++ {
			got, e := read(s+tail, true, n)
			if len(got) != len(want) || e != wantErr {
				t.Fatal(n, len(got), e)
			}
			for i := range got {
				if got[i] != want[i] {
					t.Error(n, i, got[i])
				}
			}
		}
	}
}

// P1: many small pieces are no trouble.
func TestManyPieces(t *testing.T) {
	r := New(false)
	for range 200000 {
		r.Feed("S\x00\x00\x00\x04")
	}
	for i := range 200000 {
		if f, e := r.Next(); f.Type != 'S' || e != api.OK {
			t.Fatal(i, f, e)
		}
	}
	if r.Left() != 0 {
		t.Error(r.Left())
	}
}
