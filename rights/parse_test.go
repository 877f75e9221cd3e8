package rights_test

import (
	"slices"
	"strings"
	"testing"

	"easement/api"
	"easement/rights"
)

// parses fails unless Parse returns the rights whose text is written out, or ErrForm if there are none.
func parses(t *testing.T, text string) {
	t.Helper()
	want, e := rights.Set(0), api.ErrForm
	if i := slices.Index(valid[:], text); i >= 0 {
		want, e = rights.Set(i), api.OK
	}
	if s, f := rights.Parse(text); s != want || f != e {
		t.Errorf("Parse of %q is %d, %d, not %d, %d", text, s, f, want, e)
	}
}

// refuses fails unless Parse returns ErrForm, and no rights beside it.
func refuses(t *testing.T, text string) {
	t.Helper()
	if s, e := rights.Parse(text); s != 0 || e != api.ErrForm {
		t.Errorf("Parse of %q is %d, %d", text, s, e)
	}
}

// The texts that the tests are held against are the 32 that the chapter describes.
func TestValid(t *testing.T) {
	for i, text := range valid {
		want := ""
		set := bits(i)
		for k, letter := range []string{"r", "d", "t", "g", "v"} {
			if set[k] {
				want += letter
			} else {
				want += "-"
			}
		}
		if text != want {
			t.Errorf("text %d is %q, not %q", i, text, want)
		}
	}
}

// P16.1: Parse of each of the 32 texts.
func TestParse(t *testing.T) {
	for i, text := range valid {
		if s, e := rights.Parse(text); s != rights.Set(i) || e != api.OK {
			t.Errorf("Parse of %q is %d, %d, not %d", text, s, e, i)
		}
	}
	for _, c := range []struct {
		text string
		want rights.Set
	}{
		{"-----", 0},
		{"r----", rights.Read},
		{"-d---", rights.Derive},
		{"--t--", rights.Thaw},
		{"---g-", rights.Delegate},
		{"----v", rights.Revoke},
		{"r---v", rights.Read | rights.Revoke},
		{"rdtgv", rights.All},
	} {
		if s, e := rights.Parse(c.text); s != c.want || e != api.OK {
			t.Errorf("Parse of %q is %d, %d, not %d", c.text, s, e, c.want)
		}
	}
}

// P16.1: Parse of the text of a set is that set, without its other bits.
func TestParseOfText(t *testing.T) {
	for i := range 256 {
		s, e := rights.Parse(rights.Set(i).Text())
		if s != rights.Set(i%32) || e != api.OK {
			t.Errorf("Parse of the text of %d is %d, %d", i, s, e)
		}
		if s.Right() && s.Text() != valid[i%32] {
			t.Errorf("the text of what Parse returned is %q, not %q", s.Text(), valid[i%32])
		}
	}
}

// P16.1: texts of other lengths, each letter of which may be right.
func TestParseOfOtherLengths(t *testing.T) {
	refuses(t, "")
	for _, text := range valid {
		for n := range text {
			refuses(t, text[:n])
			refuses(t, text[n+1:])
			refuses(t, text[:n]+text[n+1:])
		}
		for _, more := range []string{"-", "r", "d", "t", "g", "v", "x", " ", "\n", "\x00", "\xff", "é"} {
			for n := range len(text) + 1 {
				refuses(t, text[:n]+more+text[n:])
			}
		}
		for _, other := range valid {
			refuses(t, text+other)
		}
	}
}

// P16.1: every byte in each place of each text.
func TestParseOfBytes(t *testing.T) {
	for _, text := range valid {
		for place := range text {
			for b := range 256 {
				l := []byte(text)
				l[place] = byte(b)
				parses(t, string(l))
			}
		}
	}
}

// P16.1: all texts of up to six letters of a few, so that each letter is in each wrong place.
func TestParseOfLetters(t *testing.T) {
	all := []string{""}
	for range 6 {
		var longer []string
		for _, text := range all {
			parses(t, text)
			for _, c := range "rdtgv-R" {
				longer = append(longer, text+string(c))
			}
		}
		all = longer
	}
	for _, text := range all {
		refuses(t, text)
	}
}

// P16.1: texts that resemble right ones.
func TestParseOfWrongTexts(t *testing.T) {
	for _, text := range []string{
		"rrrrr", "ddddd", "vgtdr", "drtgv", "rdtvg", "-r---", "d----", "---v-", "g----",
		"RDTGV", "Rdtgv", "rDtgv", "rdTgv", "rdtGv", "rdtgV", "R----", "----V", "---G-",
		"rdtgx", "xdtgv", "rd_gv", "rdt.v", "qdtgv", "-e---", "--u--", "---h-", "----w",
		"rdtg ", " rdtg", "     ", "rdtg\n", "00000", "11111", "31", "0", "?----",
		"\x00\x00\x00\x00\x00", "\xff\xff\xff\xff\xff", "r\x00---", "----\x80", "\xf2dtgv",
		"–----", "––", "—--", "r–-", "rdtgｖ", "ｒｄｔｇｖ", "é---", "-----\x00", "\ufeff-----", "\ufeffgv",
		"ŕdtgv", "rdtg\u0076\u0301", "\U0001F600-", "r----r----", "r----,-d---",
	} {
		refuses(t, text)
	}
}

// P1, P16.1: long texts.
func TestParseOfLongTexts(t *testing.T) {
	for _, n := range []int{256, 257, 65536, 1<<20 + 1} {
		for _, text := range []string{"-", "r", "rdtgv", "-----", "\x00"} {
			refuses(t, strings.Repeat(text, n))
		}
		refuses(t, "rdtgv"+strings.Repeat("-", n))
		refuses(t, strings.Repeat("-", n)+"rdtgv")
	}
}
