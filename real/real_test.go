package real

import (
	"math/rand"
	"strings"
	"testing"

	"taxirank/api"
)

// R1: reals, and their forms.
func TestCanon(t *testing.T) {
	for s, want := range map[string]string{
		"0": "0", "+0": "0", "-0": "-0", "-0.0": "-0", "-.0": "-0", "0.": "0", "000": "0", "-000.": "-0",
		"7": "7", "+007.50": "7.5", "-007.50": "-7.5", ".5": "0.5", "-.50": "-0.5", "+.000001": "0.000001", "5.": "5",
		"100": "100", "1.000000": "1", "10.010": "10.01",
		"999999999": "999999999", "999999999.999999": "999999999.999999", "-999999999.999999": "-999999999.999999",
		"000000001.000001": "1.000001", "123456789.123456": "123456789.123456", "0.1": "0.1", "0.3": "0.3",
		"inf": "Infinity", "INF": "Infinity", "+inf": "Infinity", "-Inf": "-Infinity", "infinity": "Infinity", "-INFINITY": "-Infinity",
		"nan": "NaN", "NaN": "NaN", "NAN": "NaN",
	} {
		if f, e := Canon(s); f != want || e != api.OK {
			t.Errorf("Canon(%q) = %q, %v; want %q", s, f, e, want)
		}
	}
}

func wrong() []string {
	return []string{"", "+", "-", ".", "+.", "-.", "++1", "+-1", " 1", "1 ", "1.2.3", "1..", "1e5", "1_0", "0x1", "1,5", "a", "٣",
		"1234567890", "0000000001", "1234567890.", "1.1234567", ".1234567", "1.0000000",
		"+nan", "-nan", "in", "infi", "infinit", "infinityy", "i", "nanx", "inf.", "1inf", "\x00", "1\x00", strings.Repeat("1", 5000)}
}

func TestCanonWrong(t *testing.T) {
	for _, s := range wrong() {
		if f, e := Canon(s); f != "" || e != api.ErrValue {
			t.Errorf("Canon(%.20q) = %q, %v", s, f, e)
		}
	}
}

// R2: the order of reals.
func TestOrder(t *testing.T) {
	rows := [][]string{{"-inf", "-Infinity"}, {"-999999999.999999"}, {"-999999999.999998"}, {"-1", "-1.0"}, {"-0.000001"}, {"0", "-0", "+.0"}, {".000001"}, {"0.1", ".10"}, {"9"}, {"10"}, {"999999999.999998"}, {"999999999.999999"}, {"inf", "+infinity"}, {"nan", "NaN"}}
	for i, l := range rows {
		for j, m := range rows {
			want := min(max(i-j, -1), 1)
			for _, a := range l {
				for _, b := range m {
					if n, e := Cmp(a, b); n != want || e != api.OK {
						t.Errorf("Cmp(%s, %s) = %d, %v", a, b, n, e)
					}
					for k, v := range rows {
						if ok, e := Between(v[0], a, b); ok != (i <= k && k <= j) || e != api.OK {
							t.Errorf("Between(%s, %s, %s) = %v, %v", v[0], a, b, ok, e)
						}
					}
				}
			}
		}
	}
}

func TestOrderWrong(t *testing.T) {
	for _, s := range wrong() {
		for _, l := range [][2]string{{s, "1"}, {"1", s}, {s, s}} {
			if n, e := Cmp(l[0], l[1]); n != 0 || e != api.ErrValue {
				t.Errorf("Cmp(%q) = %d, %v", l, n, e)
			}
		}
		for _, l := range [][3]string{{s, "1", "2"}, {"1", s, "2"}, {"1", "2", s}, {"3", "4", s}} {
			if ok, e := Between(l[0], l[1], l[2]); ok || e != api.ErrValue {
				t.Errorf("Between(%q) = %v, %v", l, ok, e)
			}
		}
	}
}

// spelt is the form as the document spells it, digit by digit.
func spelt(s string) string {
	sign := ""
	switch s[0] {
	case '-':
		sign, s = "-", s[1:]
	case '+':
		s = s[1:]
	}
	whole, part, _ := strings.Cut(s, ".")
	whole, part = strings.TrimLeft(whole, "0"), strings.TrimRight(part, "0")
	if whole == "" {
		whole = "0"
	}
	if part != "" {
		part = "." + part
	}
	return sign + whole + part
}

func digit(r *rand.Rand, n int) string {
	s := ""
	for range n {
		s += string("00123456789999"[r.Intn(14)])
	}
	return s
}

// R1, R3: forms are as spelt, and their own forms; equal ones have one form, but for -0.
func TestForms(t *testing.T) {
	r := rand.New(rand.NewSource(1))
	for range 200000 {
		s := []string{"", "+", "-"}[r.Intn(3)] + digit(r, 1+r.Intn(9))
		if r.Intn(2) == 0 {
			s += "." + digit(r, r.Intn(7))
		}
		f, e := Canon(s)
		if e != api.OK || f != spelt(s) {
			t.Fatalf("Canon(%q) = %q, %v; want %q", s, f, e, spelt(s))
		}
		if g, e := Canon(f); g != f || e != api.OK {
			t.Fatal(s, f, g, e)
		}
		if n, e := Cmp(s, f); n != 0 || e != api.OK {
			t.Fatal(s, f, n, e)
		}
	}
}
