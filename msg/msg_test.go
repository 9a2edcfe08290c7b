package msg

import (
	"math/rand"
	"slices"
	"strings"
	"testing"

	"taxirank/api"
	"taxirank/wire"
)

func same(a, b Msg) bool {
	return a.Kind == b.Kind && slices.Equal(a.Texts, b.Texts) && slices.Equal(a.Nums, b.Nums)
}

type example struct {
	back bool
	m    Msg
	body string
}

var pad = strings.Repeat("\x00", 18)

func examples() []example {
	long := strings.Repeat("x", 9999)
	return []example{
		{false, Msg{0, []string{"user", "u"}, []int{Startup, 2}}, "\x00\x03\x00\x00user\x00u\x00\x00"},
		{false, Msg{0, nil, []int{Startup, 0}}, "\x00\x03\x00\x00\x00"},
		{false, Msg{0, []string{"a", "b", "c", "d"}, []int{-1, 4}}, "\xff\xff\xff\xffa\x00b\x00c\x00d\x00\x00"},
		{false, Msg{0, nil, []int{Cancel, 7, -8}}, "\x04\xd2\x16\x2e\x00\x00\x00\x07\xff\xff\xff\xf8"},
		{false, Msg{'Q', []string{"a"}, nil}, "a\x00"},
		{false, Msg{'Q', []string{long}, nil}, long + "\x00"},
		{false, Msg{'p', []string{""}, nil}, "\x00"},
		{false, Msg{Kind: 'X'}, ""},
		{false, Msg{Kind: 'S'}, ""},
		{false, Msg{Kind: 'H'}, ""},
		{false, Msg{'P', []string{"n", "select"}, []int{2, 1, -1}}, "n\x00select\x00\x00\x02\x00\x00\x00\x01\xff\xff\xff\xff"},
		{false, Msg{'B', []string{"p", "s", "ab", ""}, []int{1, -2, 3, 2, -1, 0, 2, 32767, -32768}},
			"p\x00s\x00\x00\x01\xff\xfe\x00\x03\x00\x00\x00\x02ab\xff\xff\xff\xff\x00\x00\x00\x00\x00\x02\x7f\xff\x80\x00"},
		{false, Msg{'E', []string{"p"}, []int{1<<31 - 1}}, "p\x00\x7f\xff\xff\xff"},
		{false, Msg{'D', []string{"p"}, []int{'S'}}, "Sp\x00"},
		{false, Msg{'C', []string{""}, []int{255}}, "\xff\x00"},
		{true, Msg{'R', nil, []int{3}}, "\x00\x00\x00\x03"},
		{true, Msg{'S', []string{"a", "b"}, nil}, "a\x00b\x00"},
		{true, Msg{'K', nil, []int{1, -1 << 31}}, "\x00\x00\x00\x01\x80\x00\x00\x00"},
		{true, Msg{'Z', nil, []int{'I'}}, "I"},
		{true, Msg{'Z', nil, []int{0}}, "\x00"},
		{true, Msg{'C', []string{"SET"}, nil}, "SET\x00"},
		{true, Msg{'E', []string{"ERROR", ""}, []int{2, 'S', 255}}, "SERROR\x00\xff\x00\x00"},
		{true, Msg{'N', nil, []int{0}}, "\x00"},
		{true, Msg{'T', []string{"a", ""}, []int{2}}, "\x00\x02a\x00" + pad + "\x00" + pad},
		{true, Msg{'D', []string{"\x00x"}, []int{2, 2, -1}}, "\x00\x02\x00\x00\x00\x02\x00x\xff\xff\xff\xff"},
		{true, Msg{'D', nil, []int{0}}, "\x00\x00"},
		{true, Msg{Kind: 'I'}, ""},
		{true, Msg{Kind: '1'}, ""},
		{true, Msg{Kind: '2'}, ""},
		{true, Msg{Kind: '3'}, ""},
		{true, Msg{Kind: 'n'}, ""},
		{true, Msg{Kind: 's'}, ""},
	}
}

// M1, M2: messages and their bodies, both ways.
func TestExamples(t *testing.T) {
	for _, c := range examples() {
		f, e := Encode(c.back, c.m)
		if f != (wire.Frame{Type: c.m.Kind, Body: c.body}) || e != api.OK {
			t.Errorf("Encode(%v, %v) = %q, %v", c.back, c.m, f.Body, e)
		}
		m, e := Decode(c.back, wire.Frame{Type: c.m.Kind, Body: c.body})
		if !same(m, c.m) || e != api.OK {
			t.Errorf("Decode(%v, %q) = %v, %v", c.back, c.body, m, e)
		}
	}
}

func TestLayout(t *testing.T) {
	client := map[byte]string{0: "ip", 'Q': "s", 'p': "s", 'X': "", 'S': "", 'H': "", 'P': "ssl", 'B': "sscvc", 'E': "si", 'D': "bs", 'C': "bs"}
	server := map[byte]string{'R': "i", 'S': "ss", 'K': "ii", 'Z': "b", 'C': "s", 'E': "f", 'N': "f", 'T': "m", 'D': "v", 'I': "", '1': "", '2': "", '3': "", 'n': "", 's': ""}
	for back, all := range map[bool]map[byte]string{false: client, true: server} {
		for k := range 256 {
			want, there := all[byte(k)]
			if s, ok := Layout(back, byte(k)); s != want || ok != there {
				t.Errorf("Layout(%v, %d) = %q, %v", back, k, s, ok)
			}
			if !there {
				if f, e := Encode(back, Msg{Kind: byte(k)}); f != (wire.Frame{}) || e != api.ErrArg {
					t.Errorf("Encode of no kind %d: %v %v", k, f, e)
				}
				if m, e := Decode(back, wire.Frame{Type: byte(k)}); !same(m, Msg{}) || e != api.ErrForm {
					t.Errorf("Decode of no kind %d: %v %v", k, m, e)
				}
			}
		}
	}
}

// M1: what is not of its layout is ErrArg, ahead of what is too long.
func TestEncodeErrors(t *testing.T) {
	long := strings.Repeat("x", 10000)
	for _, c := range []struct {
		back bool
		m    Msg
		e    api.Errno
	}{
		{false, Msg{Kind: 'Q'}, api.ErrArg},
		{false, Msg{'Q', []string{"a", "b"}, nil}, api.ErrArg},
		{false, Msg{'Q', []string{"a"}, []int{1}}, api.ErrArg},
		{false, Msg{'Q', []string{"a\x00"}, nil}, api.ErrArg},
		{false, Msg{'Q', []string{"\x00a"}, nil}, api.ErrArg},
		{false, Msg{'D', []string{"\x00"}, []int{1}}, api.ErrArg},
		{false, Msg{'Q', []string{long}, nil}, api.ErrLong},
		{false, Msg{'Q', []string{long, ""}, nil}, api.ErrArg},
		{false, Msg{'Q', []string{long + "\x00"}, nil}, api.ErrArg},
		{false, Msg{'X', []string{""}, nil}, api.ErrArg},
		{false, Msg{0, nil, nil}, api.ErrArg},
		{false, Msg{0, nil, []int{Startup}}, api.ErrArg},
		{false, Msg{0, []string{"a"}, []int{Startup, 1}}, api.ErrArg},
		{false, Msg{0, []string{"a", ""}, []int{Startup, 2}}, api.ErrArg},
		{false, Msg{0, []string{"a", "b"}, []int{Startup, 0}}, api.ErrArg},
		{false, Msg{0, []string{"a", "b"}, []int{Startup, 4}}, api.ErrArg},
		{false, Msg{0, nil, []int{Startup, -2}}, api.ErrArg},
		{false, Msg{0, nil, []int{Startup, 1 << 62}}, api.ErrArg},
		{false, Msg{0, nil, []int{1 << 31, 0}}, api.ErrArg},
		{false, Msg{0, nil, []int{-1<<31 - 1, 0}}, api.ErrArg},
		{false, Msg{0, nil, []int{Cancel, 0}}, api.ErrArg},
		{false, Msg{0, nil, []int{Startup, 1, 1}}, api.ErrArg},
		{false, Msg{0, nil, []int{Cancel, 1, 2, 3}}, api.ErrArg},
		{false, Msg{0, []string{long, "b"}, []int{Startup, 2}}, api.ErrLong},
		{false, Msg{'D', []string{"a"}, []int{256}}, api.ErrArg},
		{false, Msg{'D', []string{"a"}, []int{-1}}, api.ErrArg},
		{false, Msg{'P', []string{"a", "b"}, []int{101}}, api.ErrArg},
		{false, Msg{'P', []string{"a", "b"}, append([]int{101}, make([]int, 101)...)}, api.ErrArg},
		{false, Msg{'P', []string{"a", "b"}, []int{-1}}, api.ErrArg},
		{false, Msg{'B', []string{"a", "b"}, []int{1, 32768, 0, 0}}, api.ErrArg},
		{false, Msg{'B', []string{"a", "b"}, []int{1, -32769, 0, 0}}, api.ErrArg},
		{true, Msg{'D', []string{"ab"}, []int{1, 1}}, api.ErrArg},
		{true, Msg{'D', []string{"ab"}, []int{1, 3}}, api.ErrArg},
		{true, Msg{'D', []string{"ab"}, []int{1, -1}}, api.ErrArg},
		{true, Msg{'D', nil, []int{1, -2}}, api.ErrArg},
		{true, Msg{'D', []string{long + "x"}, []int{1, 10001}}, api.ErrArg},
		{true, Msg{'D', []string{long}, []int{1, 10000}}, api.ErrLong},
		{true, Msg{'E', []string{"a"}, []int{1, 0}}, api.ErrArg},
		{true, Msg{'E', []string{"a"}, []int{1, 256}}, api.ErrArg},
		{true, Msg{'E', []string{"a"}, []int{1}}, api.ErrArg},
		{true, Msg{'E', nil, []int{-1}}, api.ErrArg},
		{true, Msg{'T', make([]string, 101), []int{101}}, api.ErrArg},
		{true, Msg{'Z', nil, nil}, api.ErrArg},
	} {
		if f, e := Encode(c.back, c.m); f != (wire.Frame{}) || e != c.e {
			t.Errorf("Encode(%v, %.60v) = %v, %v; want %v", c.back, c.m, f.Type, e, c.e)
		}
	}
}

// M1: frames that no message has.
func TestDecodeErrors(t *testing.T) {
	for _, c := range []struct {
		back bool
		f    wire.Frame
	}{
		{false, wire.Frame{Type: 'Q'}},
		{false, wire.Frame{Type: 'Q', Body: "a"}},
		{false, wire.Frame{Type: 'Q', Body: "a\x00b\x00"}},
		{false, wire.Frame{Type: 'Q', Body: strings.Repeat("x", 10000) + "\x00"}},
		{false, wire.Frame{Type: 'X', Body: "\x00"}},
		{false, wire.Frame{Body: ""}},
		{false, wire.Frame{Body: "\x00\x03\x00"}},
		{false, wire.Frame{Body: "\x00\x03\x00\x00"}},
		{false, wire.Frame{Body: "\x00\x03\x00\x00a\x00\x00"}},
		{false, wire.Frame{Body: "\x00\x03\x00\x00a\x00b\x00"}},
		{false, wire.Frame{Body: "\x00\x03\x00\x00\x00\x00"}},
		{false, wire.Frame{Body: "\x04\xd2\x16\x2e\x00"}},
		{false, wire.Frame{Body: "\x04\xd2\x16\x2e\x00\x00\x00\x00\x00\x00\x00\x00\x00"}},
		{false, wire.Frame{Type: 'P', Body: "a\x00b\x00\x00"}},
		{false, wire.Frame{Type: 'P', Body: "a\x00b\x00\x00\x01"}},
		{false, wire.Frame{Type: 'P', Body: "a\x00b\x00\x00\x65" + strings.Repeat("\x00", 404)}},
		{false, wire.Frame{Type: 'P', Body: "a\x00b\x00\xff\xff"}},
		{true, wire.Frame{Type: 'D', Body: "\x00\x01\xff\xff\xff\xfe"}},
		{true, wire.Frame{Type: 'D', Body: "\x00\x01\x00\x00\x00\x02a"}},
		{true, wire.Frame{Type: 'D', Body: "\x00\x01\x7f\xff\xff\xff"}},
		{true, wire.Frame{Type: 'E', Body: ""}},
		{true, wire.Frame{Type: 'E', Body: "Sa\x00"}},
		{true, wire.Frame{Type: 'E', Body: "Sa\x00\x00\x00"}},
		{true, wire.Frame{Type: 'T', Body: "\x00\x01a\x00" + pad[1:]}},
		{true, wire.Frame{Type: 'T', Body: "\x00\x01a\x00" + pad[1:] + "\x01"}},
		{true, wire.Frame{Type: 'R', Body: "\x00\x00\x00"}},
	} {
		if m, e := Decode(c.back, c.f); !same(m, Msg{}) || e != api.ErrForm {
			t.Errorf("Decode(%v, %q) = %v, %v", c.back, c.f, m, e)
		}
	}
}

func TestText(t *testing.T) {
	long := strings.Repeat("x", 10000)
	for _, c := range []struct {
		back bool
		kind byte
		l    []string
		s    string
		e    api.Errno
	}{
		{false, 'Q', []string{"a"}, "Q\x00\x00\x00\x06a\x00", api.OK},
		{true, 'S', []string{"a", "b"}, "S\x00\x00\x00\x08a\x00b\x00", api.OK},
		{true, 'I', nil, "I\x00\x00\x00\x04", api.OK},
		{true, 'Z', nil, "", api.ErrArg},
		{false, 'Q', nil, "", api.ErrArg},
		{false, 0, nil, "", api.ErrArg},
		{false, 'Q', []string{long}, "", api.ErrLong},
	} {
		if s, e := Text(c.back, c.kind, c.l...); s != c.s || e != c.e {
			t.Errorf("Text(%v, %q, %.20v) = %q, %v", c.back, c.kind, c.l, s, e)
		}
	}
}

// M2: whatever bytes are read are written the same; nothing panics.
func TestRandomBodies(t *testing.T) {
	r := rand.New(rand.NewSource(1))
	kinds, read := "\x00QpXSHPBEDCRKZNTI123ns", 0
	for range 300000 {
		b := make([]byte, r.Intn(14))
		for i := range b {
			b[i] = "\x00\x00\x00\x01\x02a\xff"[r.Intn(7)]
		}
		f, back := wire.Frame{Type: kinds[r.Intn(len(kinds))], Body: string(b)}, r.Intn(2) == 0
		m, e := Decode(back, f)
		if e != api.OK {
			continue
		}
		read++
		if g, e := Encode(back, m); g != f || e != api.OK {
			t.Fatal(back, f, m, g, e)
		}
	}
	if read < 1000 {
		t.Error("few were read", read)
	}
}

// P3: what is handed in is not written into.
func TestEncodeKeepsHands(t *testing.T) {
	m := Msg{'E', []string{"a", "b", "behind"}[:2], []int{2, 1, 2, 99}[:3]}
	Encode(true, m)
	if m.Texts[:3][2] != "behind" || m.Nums[:4][3] != 99 || m.Texts[0] != "a" {
		t.Error(m)
	}
}

// M1: a hundred is the most that is counted.
func TestHundred(t *testing.T) {
	nums := append([]int{100}, slices.Repeat([]int{-1}, 100)...)
	for _, c := range []struct {
		back bool
		m    Msg
	}{
		{true, Msg{'D', nil, nums}},
		{true, Msg{'T', slices.Repeat([]string{"a"}, 100), []int{100}}},
		{false, Msg{'P', []string{"a", "b"}, nums}},
	} {
		f, e := Encode(c.back, c.m)
		if e != api.OK {
			t.Fatal(c.m.Kind, e)
		}
		if m, e := Decode(c.back, f); !same(m, c.m) || e != api.OK {
			t.Error(c.m.Kind, e)
		}
	}
}
