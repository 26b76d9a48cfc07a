package strtab_test

import (
	"bytes"
	"math"
	"slices"
	"strconv"
	"strings"
	"testing"

	"fishplate/api"
	"fishplate/strtab"
)

// long tells n bytes, no two neighbours the same, none of them 0.
func long(n int) string {
	var b []byte
	for i := range n {
		b = append(b, byte('a'+i%26))
	}
	return string(b)
}

// high are all bytes above 127, up to n of them.
func high(n int) string {
	var b []byte
	for i := range n {
		b = append(b, byte(255-i%128))
	}
	return string(b)
}

// good are names that may be.
func good() []string {
	return []string{
		"", "a", "ab", " ", "\x01", "\x7f", "\x80", "\xff", "\xc3\xa9", "\xed\xa0\x80", "0", ".text", ".llvm_addrsig",
		long(31), long(32), high(31), high(32), strings.Repeat("\xff", 32), strings.Repeat("é", 16),
	}
}

// bad are names that may not be.
func bad() []string {
	return []string{
		"\x00", "\x00a", "a\x00", "a\x00b", "\x00\x00", "\xff\x00", "a\x00b\x00c",
		"\x00" + long(31), long(31) + "\x00", long(15) + "\x00" + long(16), strings.Repeat("\x00", 32),
		long(33), long(34), long(64), long(65), long(256), long(288), long(70000),
		high(33), strings.Repeat("é", 17), strings.Repeat("\x00", 33), long(32) + "\x00", "\x00" + long(32),
	}
}

// P3.1: at most MaxText bytes, none of them 0.
func TestMay(t *testing.T) {
	for _, s := range good() {
		if !strtab.May(s) {
			t.Errorf("May(%q) = false", s)
		}
	}
	for _, s := range bad() {
		if strtab.May(s) {
			t.Errorf("May(%q) = true", s)
		}
	}
}

// P3.1: no count of bytes but those up to MaxText; bytes are counted, not runes.
func TestMayCountsBytes(t *testing.T) {
	for n := range 3 * api.MaxText {
		for _, s := range []string{long(n), high(n), strings.Repeat("\x80", n)} {
			if got := strtab.May(s); got != (n <= api.MaxText) {
				t.Errorf("May of %d bytes = %v", n, got)
			}
		}
	}
}

// P3.1: a 0 is found wherever it stands; no other byte stops a name.
func TestMayLooksAtEachByte(t *testing.T) {
	for n := 1; n <= api.MaxText; n++ {
		for i := range n {
			s := []byte(long(n))
			s[i] = 0
			if strtab.May(string(s)) {
				t.Errorf("May(%q) = true", s)
			}
		}
	}
	for c := 1; c < 256; c++ {
		if !strtab.May(string([]byte{byte(c)})) || !strtab.May(string([]byte{'a', byte(c), 'b'})) {
			t.Errorf("May of the byte %d = false", c)
		}
	}
}

// mustStand holds what At tells against a name.
func mustStand(t *testing.T, b []byte, at int, want string) {
	t.Helper()
	if name, ok := strtab.At(b, at); name != want || !ok {
		t.Errorf("At(%q, %d) = %q, %v; want %q, true", b, at, name, ok, want)
	}
}

// mustNotStand holds what At tells against "", false.
func mustNotStand(t *testing.T, b []byte, at int) {
	t.Helper()
	if name, ok := strtab.At(b, at); name != "" || ok {
		t.Errorf("At(%q, %d) = %q, %v; want \"\", false", b, at, name, ok)
	}
}

// P3.1: the bytes from there on to the next 0, also from within a name, and none where a 0 is.
func TestAtTellsTheName(t *testing.T) {
	b := []byte("\x00ab\x00c\x00\x00.text\x00\xff\x80\x00")
	for at, want := range []string{
		"", "ab", "b", "", "c", "", "", ".text", "text", "ext", "xt", "t", "", "\xff\x80", "\x80", "",
	} {
		mustStand(t, b, at, want)
	}
	mustStand(t, []byte{0}, 0, "")
	mustStand(t, []byte("a\x00"), 0, "a")
}

// P3.1: at may be any number; only where b has a byte can a name begin.
func TestAtWrongPlaces(t *testing.T) {
	for _, b := range [][]byte{nil, {}, {0}, []byte("ab\x00"), []byte("\x00ab\x00"), make([]byte, 40)} {
		for _, at := range []int{
			math.MinInt, math.MinInt + 1, math.MinInt + 33, -1 << 32, -40, -34, -33, -32, -4, -3, -2, -1,
			len(b), len(b) + 1, len(b) + 32, len(b) + 33, 1 << 32, 1<<32 + 1,
			math.MaxInt - 34, math.MaxInt - 33, math.MaxInt - 32, math.MaxInt - 1, math.MaxInt,
		} {
			mustNotStand(t, b, at)
		}
	}
}

// P3.1: no name without a 0 behind it, be it the last place.
func TestAtWithoutZero(t *testing.T) {
	for _, b := range []string{"a", "ab", "\xff", long(31), long(32), long(33), long(100)} {
		for at := range len(b) {
			mustNotStand(t, []byte(b), at)
			mustNotStand(t, []byte("\x00ab\x00"+b), 4+at)
		}
	}
}

// P3.1: a 0 that stands up to 32 bytes behind a place ends a name; one that stands further doesn't.
func TestAtLongNames(t *testing.T) {
	for n := range 100 {
		for _, name := range []string{long(n), high(n)} {
			for _, behind := range []string{"", "\x00", "x", "x\x00", long(40), "\x00\x00"} {
				b := []byte("q\x00" + name + "\x00" + behind)
				if n <= api.MaxText {
					mustStand(t, b, 2, name)
				} else {
					mustNotStand(t, b, 2)
				}
			}
		}
	}
}

// P3.1: of a name too long its last 32 bytes are one, and no more of it.
func TestAtWithinALongName(t *testing.T) {
	name := long(80)
	b := []byte("\x00" + name + "\x00z")
	for i := range name {
		if rest := name[i:]; len(rest) <= api.MaxText {
			mustStand(t, b, 1+i, rest)
		} else {
			mustNotStand(t, b, 1+i)
		}
	}
}

// P3.1: only the bytes that b has are looked at, not those that its array has behind them.
func TestAtLooksAtNoSpareRoom(t *testing.T) {
	array := []byte("ab\x00c\x00")
	mustNotStand(t, array[:2], 0)
	mustNotStand(t, array[:2], 2)
	mustNotStand(t, array[:4], 3)
	mustNotStand(t, array[:0], 0)
	mustStand(t, array[:3], 0, "ab")
}

// plainAt tells what P3.1 says, byte by byte.
func plainAt(b []byte, at int) (string, bool) {
	var name []byte
	for i := at; i < len(b); i++ {
		if b[i] == 0 {
			return string(name), len(name) <= 32
		}
		name = append(name, b[i])
	}
	return "", false
}

// P3.1: At of all short strings of some bytes.
func TestAtOfAllShortStrings(t *testing.T) {
	all := []string{""}
	for range 7 {
		var longer []string
		for _, s := range all {
			for _, c := range []byte{0, 'a', 255} {
				longer = append(longer, s+string([]byte{c}))
			}
		}
		for _, s := range longer {
			for at := range len(s) {
				want, ok := plainAt([]byte(s), at)
				if name, stands := strtab.At([]byte(s), at); name != want || stands != ok {
					t.Fatalf("At(%q, %d) = %q, %v; want %q, %v", s, at, name, stands, want, ok)
				}
			}
		}
		all = longer
	}
}

// mustMake holds what Make tells against a table and places.
func mustMake(t *testing.T, names []string, table string, places []int) {
	t.Helper()
	b, l := strtab.Make(names)
	if string(b) != table || !slices.Equal(l, places) {
		t.Errorf("Make(%q) = %q, %v; want %q, %v", names, b, l, table, places)
	}
}

// P3.1: a 0, then each name and a 0, one place of each.
func TestMakeTellsTheTable(t *testing.T) {
	mustMake(t, []string{"ab", "", "c", "ab"}, "\x00ab\x00c\x00", []int{1, 0, 4, 1})
	mustMake(t, []string{"a"}, "\x00a\x00", []int{1})
	mustMake(t, []string{".text", ".data", ".bss"}, "\x00.text\x00.data\x00.bss\x00", []int{1, 7, 13})
	mustMake(t, []string{"\xff", "\x80\x01"}, "\x00\xff\x00\x80\x01\x00", []int{1, 3})
	mustMake(t, []string{long(32), "z"}, "\x00"+long(32)+"\x00z\x00", []int{1, 34})
	mustMake(t, []string{high(32), long(31)}, "\x00"+high(32)+"\x00"+long(31)+"\x00", []int{1, 34})
}

// P3.1: of no names the table is a 0.
func TestMakeOfNoNames(t *testing.T) {
	mustMake(t, nil, "\x00", nil)
	mustMake(t, []string{}, "\x00", nil)
}

// P3.1: an empty name has place 0, and no bytes of its own, however often it comes.
func TestMakeOfEmptyNames(t *testing.T) {
	mustMake(t, []string{""}, "\x00", []int{0})
	mustMake(t, []string{"", "", ""}, "\x00", []int{0, 0, 0})
	mustMake(t, []string{"", "a", "", "b", ""}, "\x00a\x00b\x00", []int{0, 1, 0, 3, 0})
}

// P3.1: names stand as handed in, not sorted, each once, at the first place.
func TestMakeOfNamesThatComeAgain(t *testing.T) {
	mustMake(t, []string{"b", "a", "b", "a", "b"}, "\x00b\x00a\x00", []int{1, 3, 1, 3, 1})
	mustMake(t, []string{"a", "a", "a"}, "\x00a\x00", []int{1, 1, 1})
	mustMake(t, []string{"zz", "m", "zz", "", "a", "m"}, "\x00zz\x00m\x00a\x00", []int{1, 4, 1, 0, 6, 4})
	mustMake(t, []string{long(32), "a", long(32)}, "\x00"+long(32)+"\x00a\x00", []int{1, 34, 1})
}

// P3.1: a name that is the end, the beginning or the middle of another one has its own bytes.
func TestMakeOfNamesWithinOthers(t *testing.T) {
	mustMake(t, []string{".rela.text", ".text", "text"}, "\x00.rela.text\x00.text\x00text\x00", []int{1, 12, 18})
	mustMake(t, []string{"text", ".text", ".rela.text"}, "\x00text\x00.text\x00.rela.text\x00", []int{1, 6, 12})
	mustMake(t, []string{"abc", "ab", "a", "b"}, "\x00abc\x00ab\x00a\x00b\x00", []int{1, 5, 8, 10})
	mustMake(t, []string{"a", "ab", "abc"}, "\x00a\x00ab\x00abc\x00", []int{1, 3, 6})
	mustMake(t, []string{long(32), long(31), long(32)[1:]}, "\x00"+long(32)+"\x00"+long(31)+"\x00"+long(32)[1:]+"\x00", []int{1, 34, 66})
}

// P3.1: names that look alike but aren't the same bytes are two.
func TestMakeTellsNamesApart(t *testing.T) {
	mustMake(t, []string{"a", "A", "a ", " a"}, "\x00a\x00A\x00a \x00 a\x00", []int{1, 3, 5, 8})
	mustMake(t, []string{"\xff", "\xfe", "\uFFFD"}, "\x00\xff\x00\xfe\x00\uFFFD\x00", []int{1, 3, 5})
}

// plainMake tells what P3.1 says, by looking through all names ahead.
func plainMake(names []string) (string, []int) {
	table := "\x00"
	var places []int
	for i, name := range names {
		first := slices.Index(names, name)
		switch {
		case name == "":
			places = append(places, 0)
		case first < i:
			places = append(places, places[first])
		default:
			places = append(places, len(table))
			table += name + "\x00"
		}
	}
	return table, places
}

// checkNames holds Make of names against P3.1 and P3.3.
func checkNames(t *testing.T, names []string) {
	t.Helper()
	table, places := plainMake(names)
	mustMake(t, names, table, places)
	b, l := strtab.Make(names)
	if len(l) != len(names) {
		t.Fatalf("Make(%q) tells %d places", names, len(l))
	}
	for i, name := range names {
		mustStand(t, b, l[i], name)
	}
}

// P3.1, P3.3: Make of all short lists of some names.
func TestMakeOfAllShortLists(t *testing.T) {
	some := []string{"", "a", "b", "ab", "ba", "\xff"}
	lists := [][]string{nil}
	for range 5 {
		var longer [][]string
		for _, l := range lists {
			checkNames(t, l)
			for _, s := range some {
				longer = append(longer, append(slices.Clone(l), s))
			}
		}
		lists = longer
	}
	for _, l := range lists {
		checkNames(t, l)
	}
}

// P3.3: each name that was made stands at its place, whatever it is made of.
func TestWhatWasMadeStandsAtItsPlace(t *testing.T) {
	names := good()
	checkNames(t, names)
	slices.Reverse(names)
	checkNames(t, names)
	checkNames(t, append(names, names...))
	for c := 1; c < 256; c++ {
		names = append(names, string([]byte{byte(c)}), string([]byte{byte(c), 'x'}), string([]byte{'x', byte(c)}))
	}
	checkNames(t, names)
	for n := range api.MaxText + 1 {
		names = append(names, long(n), high(n))
	}
	checkNames(t, names)
}

// P3.3: also in a table with places above 65535, of names that come again far behind.
func TestManyNamesStandAtTheirPlaces(t *testing.T) {
	var names []string
	for i := range 20000 {
		names = append(names, "name"+strconv.Itoa(i*7919%15000))
	}
	b, l := strtab.Make(names)
	if len(l) != len(names) {
		t.Fatalf("Make tells %d places", len(l))
	}
	first := map[string]int{}
	size := 1
	for i, name := range names {
		mustStand(t, b, l[i], name)
		if _, ok := first[name]; !ok {
			first[name] = size
			size += len(name) + 1
		}
		if l[i] != first[name] {
			t.Fatalf("name %d stands at %d; want %d", i, l[i], first[name])
		}
	}
	if len(b) != size {
		t.Errorf("the table has %d bytes; want %d", len(b), size)
	}
}

// P1: a call with names that may not be ends, and doesn't panic; of what it tells nothing is said.
func TestMakeOfNamesThatMayNotBe(t *testing.T) {
	for _, s := range bad() {
		for _, names := range [][]string{{s}, {s, s}, {"a", s, "b"}, {"", s, ""}, append(good(), s)} {
			want := slices.Clone(names)
			strtab.Make(names)
			if !slices.Equal(names, want) {
				t.Errorf("Make changes %q to %q", want, names)
			}
		}
	}
	strtab.Make(append(bad(), good()...))
}

// R2: nothing that is handed in is changed, nor what stands behind it in its array.
func TestNothingHandedInIsChanged(t *testing.T) {
	array := []byte("\x00ab\x00c\x00" + long(40) + "\x00xyz")
	want := bytes.Clone(array)
	for size := range len(array) {
		for at := -1; at <= size+1; at++ {
			strtab.At(array[:size], at)
		}
	}
	if !bytes.Equal(array, want) {
		t.Errorf("%q is changed: %q", want, array)
	}
	names := []string{"b", "", "a", "b", "c", "d", ""}
	for size := range len(names) + 1 {
		strtab.Make(names[:size])
	}
	if !slices.Equal(names, []string{"b", "", "a", "b", "c", "d", ""}) {
		t.Errorf("the names are changed: %q", names)
	}
}

// fill writes over all that a list has, and over the spare room behind it.
func fill[T byte | int](l []T) {
	l = l[:cap(l)]
	for i := range l {
		l[i] = 99
	}
}

// P3.2: a name that was told stays, whatever comes of the table.
func TestAtTellsNewMemory(t *testing.T) {
	b := []byte("\x00ab\x00" + long(32) + "\x00")
	ab, _ := strtab.At(b, 1)
	longest, _ := strtab.At(b, 4)
	fill(b)
	if ab != "ab" || longest != long(32) {
		t.Errorf("b, changed, changes what was told: %q, %q", ab, longest)
	}
}

// P3.2: what Make tells shares nothing with what it tells again, nor do table and places with the names.
func TestMakeTellsNewMemory(t *testing.T) {
	for _, names := range [][]string{nil, {""}, {"", ""}, {"a"}, {"ab", "", "c", "ab"}, good()} {
		handed := slices.Clone(names)
		firstTable, firstPlaces := strtab.Make(names)
		secondTable, secondPlaces := strtab.Make(names)
		fill(firstTable)
		fill(firstPlaces)
		table, places := plainMake(handed)
		if string(secondTable) != table || !slices.Equal(secondPlaces, places) {
			t.Errorf("Make(%q) hands out one list twice", handed)
		}
		mustMake(t, handed, table, places)
		if !slices.Equal(names, handed) {
			t.Errorf("what was told, changed, changes the names: %q", names)
		}
		for i := range names {
			names[i] = "changed"
		}
		if string(secondTable) != table || !slices.Equal(secondPlaces, places) {
			t.Errorf("the names, changed, change what was told")
		}
	}
}
