package glob_test

import (
	"slices"
	"strings"
	"testing"
	"time"

	"fishplate/glob"
)

// try is a pattern, a name, and whether the one fits the other.
type try struct {
	pattern, name string
	want          bool
}

// mustTell holds what Fits tells against what it should, twice, and likewise Any of the pattern alone.
func mustTell(t *testing.T, tries []try) {
	t.Helper()
	for _, x := range tries {
		for range 2 {
			if got := glob.Fits(x.pattern, x.name); got != x.want {
				t.Errorf("Fits(%q, %q) = %v", x.pattern, x.name, got)
			}
		}
		if got := glob.Any([]string{x.pattern}, x.name); got != x.want {
			t.Errorf("Any of %q, %q = %v", x.pattern, x.name, got)
		}
	}
}

// within ends a test whose calls don't end soon: one that tries all ways would not in years.
func within(t *testing.T, calls func()) {
	t.Helper()
	done := make(chan struct{})
	go func() {
		defer close(done)
		calls()
	}()
	select {
	case <-done:
	case <-time.After(2 * time.Minute):
		t.Fatal("the calls don't end")
	}
}

// texts are all texts of at most n bytes out of some.
func texts(bytes string, n int) []string {
	l := []string{""}
	for from := 0; n > 0; n-- {
		to := len(l)
		for _, s := range l[from:to] {
			for i := range len(bytes) {
				l = append(l, s+bytes[i:i+1])
			}
		}
		from = to
	}
	return l
}

// plain tells by the chapter's words, one after the other, whether a pattern fits a name.
func plain(pattern, name string) bool {
	if pattern == "" {
		return name == ""
	}
	rest := pattern[1:]
	switch c := pattern[0]; c {
	case 42:
		for i := range len(name) + 1 {
			if plain(rest, name[i:]) {
				return true
			}
		}
		return false
	case 63:
		return name != "" && plain(rest, name[1:])
	default:
		return name != "" && name[0] == c && plain(rest, name[1:])
	}
}

// P9.1: the document's own example, and patterns as they are ordinarily.
func TestOrdinary(t *testing.T) {
	mustTell(t, []try{
		{".t*t", ".text", true},
		{".text", ".text", true},
		{".text", ".data", false},
		{".text", ".text.f", false},
		{".text.f", ".text", false},
		{".text*", ".text", true},
		{".text*", ".text.f", true},
		{".text.*", ".text", false},
		{".text.*", ".text.f", true},
		{".text.*", ".text.", true},
		{"*.text", ".rela.text", true},
		{"*.text", ".text.f", false},
		{"*text*", ".rela.text.f", true},
		{"*data*", ".rela.text.f", false},
		{".te?t", ".text", true},
		{".te?t", ".tet", false},
		{".te?t", ".texxt", false},
		{".?ata.*_?", ".data.x_1", true},
		{".?ata.*_?", ".data.x_", false},
		{".?ata.*_?", ".data.x_12", false},
		{".?ata.*_?", ".data._1_2", true},
		{"init_*_array", "init__array", true},
		{"init_*_array", "init_array", false},
	})
}

// P9.1: an empty pattern fits the empty name alone.
func TestEmptyPattern(t *testing.T) {
	mustTell(t, []try{{"", "", true}, {"", "ab", false}})
	for c := range 256 {
		mustTell(t, []try{{"", string([]byte{byte(c)}), false}})
	}
}

// P9.1: only what fits no bytes fits the empty name.
func TestEmptyName(t *testing.T) {
	mustTell(t, []try{
		{"*", "", true}, {"**", "", true}, {"***", "", true}, {strings.Repeat("*", 500), "", true},
		{"?", "", false}, {"??", "", false}, {"?*", "", false}, {"*?", "", false}, {"*?*", "", false},
		{"a", "", false}, {"*a", "", false}, {"a*", "", false}, {"*a*", "", false}, {"**a", "", false}, {"a**", "", false},
	})
	for c := range 256 {
		mustTell(t, []try{{string([]byte{byte(c)}), "", c == 42}})
	}
}

// P9.1: a * fits any bytes, wherever it stands, also none.
func TestAnyBytes(t *testing.T) {
	for _, name := range []string{"", "a", "ab", "*", "?", "\x00", "\xff\x00", ".text.f", strings.Repeat("a", 300)} {
		mustTell(t, []try{
			{"*", name, true}, {"**", name, true}, {"***", name, true},
			{"*" + name, name, true}, {name + "*", name, true}, {"*" + name + "*", name, true},
			{"**" + name + "**", name, true},
			{"x*" + name, "x" + name, true}, {name + "*x", name + "x", true},
		})
	}
	mustTell(t, []try{
		// Ahead.
		{"*a", "a", true}, {"*a", "ba", true}, {"*a", "aa", true}, {"*a", "baba", true}, {"*a", "ab", false}, {"*a", "b", false},
		// Behind.
		{"a*", "a", true}, {"a*", "ab", true}, {"a*", "aa", true}, {"a*", "abab", true}, {"a*", "ba", false}, {"a*", "b", false},
		// In the middle.
		{"a*b", "ab", true}, {"a*b", "acb", true}, {"a*b", "abb", true}, {"a*b", "aab", true}, {"a*b", "acdcdb", true},
		{"a*b", "a", false}, {"a*b", "b", false}, {"a*b", "ba", false}, {"a*b", "abc", false}, {"a*b", "cab", false},
		// None of the bytes is both ahead of the * and behind it.
		{"a*a", "a", false}, {"a*a", "aa", true}, {"ab*b", "ab", false}, {"ab*ba", "aba", false}, {"ab*ba", "abba", true},
		// Twice and more in a row.
		{"a**b", "ab", true}, {"a**b", "acb", true}, {"a***b", "acdb", true}, {"a**b", "a", false}, {"a***b", "abc", false},
		{"**a", "ba", true}, {"a**", "ab", true}, {"**a**", "bab", true}, {"**a**", "b", false},
	})
}

// P9.1: bytes between two *, which the name has never, once, twice, overlapping, or ahead of where they begin.
func TestBytesBetweenAnyBytes(t *testing.T) {
	mustTell(t, []try{
		{"*ab*", "", false}, {"*ab*", "a", false}, {"*ab*", "b", false}, {"*ab*", "ba", false}, {"*ab*", "acb", false},
		{"*ab*", "ab", true}, {"*ab*", "xab", true}, {"*ab*", "abx", true}, {"*ab*", "xabx", true},
		{"*ab*", "abab", true}, {"*ab*", "xabxabx", true},
		{"*aa*", "aaa", true}, {"*aa*aa*", "aaa", false}, {"*aa*aa*", "aaaa", true}, {"*aa*aa*", "aaxaa", true},
		{"*aba*", "ababa", true}, {"*aba*aba*", "ababa", false}, {"*aba*aba*", "abaaba", true}, {"*aba*ba", "ababa", true},
		{"*aab*", "aaab", true}, {"*aab", "aaab", true}, {"*aab", "aabaaab", true}, {"*aab", "aaaba", false},
		{"*aaab*", "aaaaaab", true}, {"*abac*", "ababac", true}, {"*abac*", "abababa", false}, {"*abab*c", "abaababbc", true},
		{"*a*b*c*", "abc", true}, {"*a*b*c*", "xaxbxcx", true}, {"*a*b*c*", "acb", false}, {"*a*b*c*", "cba", false},
		{"*a*a*", "a", false}, {"*a*a*", "aa", true}, {"*a*a*", "bab", false}, {"*a*a*", "baba", true},
		{"a*ab*b", "aabb", true}, {"a*ab*b", "abb", false}, {"a*ab*b", "aab", false}, {"a*ab*b", "axabxb", true},
	})
}

// P9.1: a * that must fit nothing, or go back several times till what is behind it fits.
func TestAnyBytesGoBack(t *testing.T) {
	mustTell(t, []try{
		{"a*bc", "abc", true}, {"*abc", "abc", true}, {"abc*", "abc", true}, {"a*b*c", "abc", true}, {"*a*b*c*", "abc", true},
		{"*ab", "aabaabab", true}, {"*ab", "aabaaba", false}, {"*aaab", "aabaaabaaaab", true}, {"*aaab", "aabaaabaaaabb", false},
		{"*b", "ababababab", true}, {"*b", "ababababa", false}, {"a*b", "abababab", true}, {"a*b", "abababa", false},
		{"a*bc*bcd", "abcbcbcbcd", true}, {"a*bc*bcd", "abcbcbcbc", false}, {"a*bc*bcd", "abcd", false},
		{"*a*ab", "aaaab", true}, {"*a*ab", "ab", false}, {"*a?ab", "aaaaab", true},
		{"a*a*a*a", "aaaa", true}, {"a*a*a*a", "aaa", false}, {"a*a*a*ab", "aaaaaaab", true}, {"a*a*a*ab", "aaaaaaa", false},
	})
	for many := range 40 {
		name := strings.Repeat("ab", many) + "aab"
		mustTell(t, []try{
			{"*aab", name, true}, {"*aab*", name + "x", true}, {"*aab", name + "x", false}, {"*aab", name[:len(name)-1], false},
			{"*ab*aab", name, many > 0},
		})
	}
}

// P9.1: a ? fits one byte, neither none nor two, at the first byte, at the last, and anywhere.
func TestOneByte(t *testing.T) {
	mustTell(t, []try{
		{"?bc", "abc", true}, {"?bc", "bc", false}, {"?bc", "aabc", false}, {"?bc", "abd", false},
		{"ab?", "abc", true}, {"ab?", "ab", false}, {"ab?", "abcd", false}, {"ab?", "aac", false},
		{"a?c", "abc", true}, {"a?c", "ac", false}, {"a?c", "abbc", false},
		{"?a?", "bab", true}, {"?a?", "ab", false}, {"?", "a", true}, {"?", "ab", false},
	})
	for many := range 70 {
		name := strings.Repeat("ab", many)[:many]
		one := strings.Repeat("?", many)
		mustTell(t, []try{{one, name, true}, {one + "?", name, false}, {one, name + "a", false}})
	}
}

// P9.1: a ? next to a * asks for one byte more, on either side.
func TestOneByteNextToAnyBytes(t *testing.T) {
	for many := range 20 {
		name := strings.Repeat("ab", many)[:many]
		mustTell(t, []try{
			{"?*", name, many >= 1}, {"*?", name, many >= 1}, {"*?*", name, many >= 1}, {"**?", name, many >= 1}, {"?**", name, many >= 1},
			{"?*?", name, many >= 2}, {"??*", name, many >= 2}, {"*??", name, many >= 2}, {"*?*?*", name, many >= 2}, {"?*?*?", name, many >= 3},
			{"x?*", "x" + name, many >= 1}, {"x*?", "x" + name, many >= 1}, {"*?x", name + "x", many >= 1}, {"?*x", name + "x", many >= 1},
		})
	}
	mustTell(t, []try{
		{"*?a", "a", false}, {"*?a", "aa", true}, {"*a?", "aa", true}, {"*a?", "a", false}, {"*a?", "ba", false},
		{"a*?b", "ab", false}, {"a*?b", "abb", true}, {"a?*b", "ab", false}, {"a?*b", "abb", true},
		{"*a?c*", "abxaxc", true}, {"*a?c*", "abxac", false}, {"*?a?*", "aab", true}, {"*?a?*", "ab", false},
	})
}

// P9.1: any other byte fits itself alone; * and ? fit each byte, also 0, 42 and 63.
func TestEachByte(t *testing.T) {
	for c := range 256 {
		for d := range 256 {
			p, n := string([]byte{byte(c)}), string([]byte{byte(d)})
			want := c == d || c == 42 || c == 63
			mustTell(t, []try{{p, n, want}, {"x" + p + "y", "x" + n + "y", want}})
		}
	}
}

// P9.1: a * or a ? of a name is a byte as any other.
func TestSignsInNames(t *testing.T) {
	mustTell(t, []try{
		{"*", "*", true}, {"*", "*a", true}, {"*", "a*", true}, {"*", "*?*", true}, {"*a", "*a", true}, {"a*", "a*", true},
		{"*a", "**a", true}, {"*a", "*b*a", true}, {"*a", "*ab", false}, {"a*b", "a*b", true}, {"a*b", "a*xb", true}, {"a*b", "a**x", false},
		{"?", "*", true}, {"?", "**", false}, {"??", "*", false}, {"?", "?", true}, {"?", "??", false}, {"a?", "a*", true},
		{"", "*", false}, {"", "?", false}, {"a", "*", false}, {"a", "?", false}, {"ab", "a*", false}, {"ab", "a?", false},
		{"a", "a*", false}, {"a", "*a", false}, {"abc", "a*c", false}, {"abc", "a?c", false}, {"*?", "*", true}, {"?*", "?", true},
		{"\x00", "\x00", true}, {"*", "\x00", true}, {"?", "\x00", true}, {"a*", "a\x00b", true}, {"a", "a\x00", false}, {"a\x00", "a", false},
	})
}

// P9.1: bytes are held against each other, not runes: a ? fits one byte of a rune of two.
func TestBytesNotRunes(t *testing.T) {
	mustTell(t, []try{
		{"?", "é", false}, {"??", "é", true}, {"???", "é", false}, {"?\xa9", "é", true}, {"\xc3?", "é", true}, {"*\xa9", "é", true}, {"\xc3*", "é", true},
		{"é", "é", true}, {"é", "\xc3", false}, {"é", "e", false}, {"é", "\xe9", false}, {"a?b", "aéb", false}, {"a??b", "aéb", true}, {"a*b", "aéb", true},
		{"??", "€", false}, {"???", "€", true}, {"????", "\U0001f600", true}, {"?", "\U0001f600", false},
		{"\xff", "\xfe", false}, {"\xff", "\ufffd", false}, {"\xff", "\x80", false}, {"\ufffd", "\xff", false}, {"?", "\xff", true}, {"??", "\xff\x80", true},
		{"\x7f", "\x80", false}, {"\x80", "\x00", false}, {"\xff", "\x7f", false}, {"\x00", "\x80", false},
		{"\x00\x7f\x80\xff", "\x00\x7f\x80\xff", true}, {"\x00*\xff", "\x00\x7f\x80\xff", true}, {"\x00?\x80?", "\x00\x7f\x80\xff", true},
	})
}

// P9.1: no letter fits the other case of it, and no other sign says anything.
func TestAllElseIsItself(t *testing.T) {
	for c := byte('a'); c <= 'z'; c++ {
		low, high := string(c), string(c-32)
		mustTell(t, []try{{low, high, false}, {high, low, false}, {"x*" + low, "xx" + high, false}, {high + "*", low + "x", false}})
	}
	mustTell(t, []try{
		{"[", "[", true}, {"]", "]", true}, {"[a]", "a", false}, {"[a]", "[a]", true}, {"[ab]", "a", false}, {"[a-c]", "b", false}, {"[^a]", "b", false},
		{"[!a]", "b", false}, {"[*]", "*", false}, {"[*]", "[*]", true}, {"[*]", "[ab]", true}, {"[?]", "?", false}, {"[?]", "[a]", true}, {"[", "a", false},
		{"\\", "\\", true}, {"\\a", "a", false}, {"\\a", "\\a", true}, {"\\\\", "\\", false}, {"\\\\", "\\\\", true},
		{"\\*", "*", false}, {"\\*", "\\*", true}, {"\\*", "\\", true}, {"\\*", "\\ab", true}, {"\\?", "?", false}, {"\\?", "\\a", true}, {"a\\", "a", false},
		{"{a,b}", "a", false}, {"{a,b}", "{a,b}", true}, {".", "a", false}, {"a+", "aa", false}, {"a|b", "a", false}, {"^a", "a", false}, {"a$", "a", false},
		{"*", "a/b", true}, {"?", "/", true}, {"a*b", "a/b", true}, {"*", ".a", true}, {"?a", ".a", true}, {"*", "a\nb", true}, {"?", "\n", true},
		{"a ", "a", false}, {" a", "a", false}, {"a", "a ", false}, {"%", "a", false}, {"_", "a", false}, {"#", "1", false},
	})
}

// P9.1: all of the name: no byte of it may be left over, nor differ, at either end or anywhere.
func TestAllOfTheName(t *testing.T) {
	const name = ".text.main_loop"
	for _, pattern := range []string{name, ".text.*_loop", "?text?main?loo?", ".*.*_*p", "?text*.*_*p"} {
		mustTell(t, []try{
			{pattern, name, true}, {pattern, name[:len(name)-1], false}, {pattern, name[:len(name)-1] + "\x00", pattern[len(pattern)-1] == '?'},
			{pattern, name + "x", false}, {pattern, name[1:], false}, {pattern, "\x00" + name[1:], pattern[0] == '?'},
			{pattern, "", false},
		})
	}
	for i := range len(name) {
		turned := name[:i] + "\xff" + name[i+1:]
		mustTell(t, []try{
			{name, turned, false}, {turned, name, false}, {name[:i], name, false}, {name, name[:i], false}, {name[i+1:], name, false}, {name, name[i+1:], false},
			{name[:i] + "?" + name[i+1:], turned, true}, {name[:i] + "*" + name[i+1:], turned, true}, {name[:i] + "*", turned, true}, {"*" + name[i+1:], turned, true},
		})
	}
}

// P1, P9.1: many * on a name of one byte repeated: each call ends, and tells what it should.
func TestManyAnyBytes(t *testing.T) {
	within(t, func() {
		for _, many := range []int{20, 64, 200, 201, 500, 1000} {
			name := strings.Repeat("a", many)
			for _, part := range []string{"*a", "a*", "*a*", "**a", "*?", "?*"} {
				all := strings.Repeat(part, many)
				mustTell(t, []try{
					{all, name, true}, {all, name + "a", true}, {all, name[1:], false}, {all + "b", name, false}, {"b" + all, name, false},
					{all + "b", name + "ab", true}, {all + "b", name + "b", true}, {all + "*b*", name + name, false}, {all + "*b*", name + "ba", true},
				})
			}
			half := strings.Repeat("*a", many/2)
			mustTell(t, []try{
				{half + "*", name, true}, {half + "*b", name, false}, {half + "b" + half, name, false}, {half + "b" + half, name + "b" + name, true},
				{half + "*b" + half, name + name, false}, {strings.Repeat("*", many), name, true}, {strings.Repeat("*", many) + "b", name, false},
				{strings.Repeat("*aa", many/2) + "*b", name, false}, {strings.Repeat("*aab", many/3), name, false},
			})
		}
	})
}

// P1, P9.1: also much longer texts end, and are told by each byte: a long name, a long pattern, and both.
func TestLongTexts(t *testing.T) {
	within(t, func() {
		long := strings.Repeat("a", 1<<20)
		both := long[:1<<12]
		run := strings.Repeat("a", 300)
		mustTell(t, []try{
			{"*", long, true}, {"?*", long, true}, {"*?", long, true}, {"*a", long, true}, {"*b", long, false}, {"b*", long, false},
			{"a*b*a", long, false}, {"a*b*a", long + "b" + long, true}, {"a", long, false}, {"", long, false},
			{strings.Repeat("*", 1<<20), "", true}, {strings.Repeat("*", 1<<20), "ab", true}, {strings.Repeat("*", 1<<20) + "b", "a", false},
			{strings.Repeat("*", 1<<20) + "b", "ab", true}, {long, "a", false}, {long, "", false}, {strings.Repeat("?", 1<<20), "ab", false},
			{both, both, true}, {both, both[1:], false}, {both[1:], both, false}, {both + "b", both + "b", true}, {both + "b", both + "c", false},
			{both + "*", both, true}, {"*" + both, both, true}, {"*" + both, both[1:], false}, {both + "*" + both, both, false}, {both + "*" + both, both + both, true},
			{strings.Repeat("?", 1<<12), both, true}, {strings.Repeat("?", 1<<12), both + "a", false}, {strings.Repeat("?", 1<<12), both[1:], false},
			{"*" + run + "b", both, false}, {"*" + run + "b", both + "b", true}, {strings.Repeat("*a", 300) + "*b", both, false}, {strings.Repeat("*a", 300) + "*b", both + "b", true},
		})
	})
}

// P9.1: one of several is enough, whichever it is; of none none fits.
func TestAny(t *testing.T) {
	for _, x := range []struct {
		patterns []string
		name     string
		want     bool
	}{
		{nil, "", false}, {nil, "a", false}, {[]string{}, "", false}, {[]string{}, "a", false},
		{[]string{"a"}, "a", true}, {[]string{"b"}, "a", false}, {[]string{"*"}, "", true}, {[]string{"?"}, "", false},
		{[]string{"a", "b", "c"}, "a", true}, {[]string{"a", "b", "c"}, "b", true}, {[]string{"a", "b", "c"}, "c", true},
		{[]string{"a", "b", "c"}, "d", false}, {[]string{"a", "b", "c"}, "abc", false}, {[]string{"a", "b", "c"}, "", false},
		{[]string{".text*", "*.f", "?"}, ".text", true}, {[]string{".text*", "*.f", "?"}, ".data.f", true},
		{[]string{".text*", "*.f", "?"}, "x", true}, {[]string{".text*", "*.f", "?"}, ".data", false}, {[]string{".text*", "*.f", "?"}, ".text.f", true},
		{[]string{""}, "", true}, {[]string{""}, "a", false}, {[]string{"a", "", "b"}, "", true}, {[]string{"a", "", "b"}, "b", true},
		{[]string{"a", "b", ""}, "", true}, {[]string{"", "a"}, "a", true}, {[]string{"", "a"}, "b", false}, {[]string{"", ""}, "", true},
		{[]string{"a", "a"}, "a", true}, {[]string{"a", "a"}, "aa", false}, {[]string{"a*", "*b"}, "ba", false}, {[]string{"a*", "*b"}, "b", true},
		{[]string{"?", "??", "????"}, "abc", false}, {[]string{"?", "??", "???"}, "abc", true}, {[]string{"[ab]", "\\a", "A"}, "a", false},
	} {
		for range 2 {
			if got := glob.Any(x.patterns, x.name); got != x.want {
				t.Errorf("Any(%q, %q) = %v", x.patterns, x.name, got)
			}
		}
	}
}

// P9.1: of many patterns the one that fits is found at each place.
func TestAnyAtEachPlace(t *testing.T) {
	for many := 1; many <= 40; many++ {
		patterns := slices.Repeat([]string{"b*a"}, many)
		if glob.Any(patterns, "ab") {
			t.Errorf("Any of %d that don't fit", many)
		}
		for i := range many {
			one := slices.Clone(patterns)
			one[i] = "a*b"
			if !glob.Any(one, "ab") || glob.Any(one[:i], "ab") || glob.Any(one[i+1:], "ab") {
				t.Errorf("Any of %d of which number %d fits", many, i)
			}
		}
	}
}

// P9.1: all patterns and names of at most four bytes, and some longer ones, told by the chapter's words.
func TestAllShortOnes(t *testing.T) {
	hold := func(patterns, names []string) {
		for _, pattern := range patterns {
			for _, name := range names {
				if got, want := glob.Fits(pattern, name), plain(pattern, name); got != want {
					t.Errorf("Fits(%q, %q) = %v", pattern, name, got)
				}
			}
		}
	}
	hold(texts("ab*?", 4), texts("ab*?", 4))
	hold(texts("a\xff*?", 4), texts("a\x00\xff", 4))
	hold(texts("ab*?", 6), texts("ab", 6))
	hold(texts("a*", 8), texts("ab", 8))
	hold(texts("ab*", 7), texts("ab", 9))
}

// P9.1: Any is whether one of the patterns fits.
func TestAnyIsOneOfThem(t *testing.T) {
	patterns := texts("a*?", 2)
	for _, first := range patterns {
		for _, second := range patterns {
			for _, name := range texts("ab*", 3) {
				want := plain(first, name) || plain(second, name)
				if got := glob.Any([]string{first, second}, name); got != want {
					t.Errorf("Any of %q and %q, %q = %v", first, second, name, got)
				}
			}
		}
	}
}

// P9.2: what fits two parts fits both together, one pattern behind the other.
func TestTwoParts(t *testing.T) {
	patterns, names := texts("ab*?", 3), texts("ab", 3)
	var fit []try
	for _, pattern := range patterns {
		for _, name := range names {
			if glob.Fits(pattern, name) {
				fit = append(fit, try{pattern, name, true})
			}
		}
	}
	if len(fit) < len(patterns) {
		t.Fatalf("only %d fit", len(fit))
	}
	for _, x := range fit {
		for _, y := range fit {
			if !glob.Fits(x.pattern+y.pattern, x.name+y.name) {
				t.Errorf("Fits(%q + %q, %q + %q) = false", x.pattern, y.pattern, x.name, y.name)
			}
		}
	}
}

// P9.2: a * ahead of a pattern, or behind it, fits all that the pattern fits, and whatever is ahead of that, or behind it.
func TestAnyBytesAround(t *testing.T) {
	more := []string{"", "a", "b", "*", "\x00", "ab", "ba", "\xff\x80", "aabab", strings.Repeat("ab", 100)}
	for _, pattern := range texts("ab*?", 4) {
		for _, name := range texts("ab", 4) {
			if !glob.Fits(pattern, name) {
				continue
			}
			for _, m := range more {
				if !glob.Fits("*"+pattern, m+name) || !glob.Fits(pattern+"*", name+m) || !glob.Fits("*"+pattern+"*", m+name+m) {
					t.Errorf("a * around %q doesn't fit %q with %q around", pattern, name, m)
				}
			}
		}
	}
}

// R2: no list that is handed in is changed, not even behind its end.
func TestNothingIsChanged(t *testing.T) {
	array := []string{"ahead", "b", "", "a*", "?", "*", "[a]", "behind", "a"}
	want := slices.Clone(array)
	for _, name := range append(texts("ab*", 2), ".text", "\x00", "\xff") {
		for from := range len(array) {
			for to := from; to <= len(array); to++ {
				glob.Any(array[from:to], name)
			}
		}
		if !slices.Equal(array, want) {
			t.Fatalf("%q is changed: %q", want, array)
		}
	}
}

// R2: what a call tells hangs on what that call was handed alone, not on the list as it was in an earlier one.
func TestNothingIsKept(t *testing.T) {
	patterns := []string{"a", "b"}
	if !glob.Any(patterns, "a") || glob.Any(patterns, "c") {
		t.Errorf("Any of a and b")
	}
	patterns[0] = "c"
	if glob.Any(patterns, "a") || !glob.Any(patterns, "c") || !glob.Any(patterns, "b") {
		t.Errorf("Any of c and b")
	}
}
