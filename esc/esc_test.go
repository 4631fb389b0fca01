package esc_test

import (
	"slices"
	"testing"

	"exergue/api"
	"exergue/esc"
)

// P3.1: each mark is written as it is written, all else stays.
func TestEscape(t *testing.T) {
	for in, out := range map[string]string{
		"": "", "a&b": "a&amp;b", "<": "&lt;", ">": "&gt;", "&": "&amp;", "\"": "&quot;", "'": "&#39;",
		"<a href='x'>\"&é€😀": "&lt;a href=&#39;x&#39;&gt;&quot;&amp;é€😀",
		"&amp;":              "&amp;amp;", "&lt": "&amp;lt", "&&": "&amp;&amp;", "plain; #39": "plain; #39", "\x00`": "\x00`",
	} {
		if got := string(esc.Escape([]rune(in))); got != out {
			t.Errorf("%q: %q, not %q", in, got, out)
		}
	}
	odd := []rune{-5, 0xD800, 0x110000}
	if got := esc.Escape(odd); !slices.Equal(got, odd) {
		t.Error(got)
	}
}

// faults are rows that are no escaped ones, and where they aren't.
var faults = map[string]int{
	"<": 0, "a>": 1, "\"": 0, "ab'": 2, "&": 0, "a&": 1, "&b": 0, "&amp": 0, "&amp;&": 5, "a&lt;<": 5,
	"&LT;": 0, "&Amp;": 0, "&apos;": 0, "&#39": 0, "&#039;": 0, "&#x27;": 0, "&#34;": 0, "&nbsp;": 0, "&quo;": 0, "&quot": 0,
	"&&amp;": 0, "& lt;": 0, "&l t;": 0, "&gt;&g": 4, "&lt;&gt;&amp;&quot;&#39;'": 24, "é&": 1, "&am&amp;": 0, "&amp;<&amp;": 5,
}

// goods are rows that are escaped ones, and what they are.
var goods = map[string]string{
	"": "", "a": "a", "&lt;": "<", "&gt;": ">", "&amp;": "&", "&quot;": "\"", "&#39;": "'", "&amp;lt;": "&lt;", "&amp;amp;": "&amp;",
	"a&lt;b&gt;c&amp;d&quot;e&#39;f": "a<b>c&d\"e'f", "lt; ;": "lt; ;", "#39;": "#39;", "&#39;&#39;": "''",
}

// P3.1: what has a raw mark.
func TestRaw(t *testing.T) {
	for in := range faults {
		if !esc.Raw([]rune(in)) {
			t.Errorf("%q", in)
		}
	}
	for in := range goods {
		if esc.Raw([]rune(in)) {
			t.Errorf("%q", in)
		}
	}
}

// P3.2: what is written is read, and where it can't be.
func TestUnescape(t *testing.T) {
	for in, out := range goods {
		if got, at, e := esc.Unescape([]rune(in)); string(got) != out || at != 0 || e != api.OK {
			t.Errorf("%q: %q, %d, %d", in, string(got), at, e)
		}
	}
	for in, place := range faults {
		if got, at, e := esc.Unescape([]rune(in)); len(got) != 0 || at != place || e != api.ErrForm {
			t.Errorf("%q: %q, %d, %d", in, string(got), at, e)
		}
	}
}

// P3.3: both are one another's way back.
func TestBack(t *testing.T) {
	pieces := []string{"<", ">", "&", "\"", "'", "a", ";", "amp;", "lt;", "#39;", "é"}
	for _, a := range pieces {
		for _, b := range pieces {
			for _, c := range pieces {
				l := []rune(a + b + c)
				w := esc.Escape(l)
				back, at, e := esc.Unescape(w)
				if esc.Raw(w) || e != api.OK || at != 0 || !slices.Equal(back, l) {
					t.Errorf("%q: %q, %q", string(l), string(w), string(back))
				}
				if u, _, e := esc.Unescape(l); e == api.OK && (esc.Raw(l) || !slices.Equal(esc.Escape(u), l)) {
					t.Errorf("%q: %q", string(l), string(u))
				}
			}
		}
	}
}

// R3: what is handed in stays as it was, and is not kept.
func TestUntouched(t *testing.T) {
	l := []rune("abc")
	a, u := esc.Escape(l), []rune(nil)
	u, _, _ = esc.Unescape(l)
	if string(l) != "abc" {
		t.Error(string(l))
	}
	l[0] = 'x'
	if string(a) != "abc" || string(u) != "abc" {
		t.Error(string(a), string(u))
	}
}
