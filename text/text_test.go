package text

import (
	"fmt"
	"math/big"
	"math/rand"
	"reflect"
	"strings"
	"testing"

	"mantlet/api"
)

// slowLines goes by the document's definition, byte by byte.
func slowLines(s string) ([]api.Line, int, api.Errno) {
	if len(s) >= 4097 {
		return nil, 0, api.ErrOver
	}
	for i := 0; i < len(s); i++ {
		if s[i] == 10 || s[i] >= 32 && s[i] <= 126 {
			continue
		}
		n := 1
		for j := 0; j < i; j++ {
			if s[j] == 10 {
				n++
			}
		}
		return nil, n, api.ErrText
	}
	var list []api.Line
	n, word, words, off := 1, "", []string(nil), false
	endWord := func() {
		if word != "" {
			words = append(words, word)
		}
		word = ""
	}
	endLine := func() {
		endWord()
		if words != nil {
			list = append(list, api.Line{N: n, Words: words})
		}
		n, words, off = n+1, nil, false
	}
	for i := 0; i < len(s); i++ {
		switch c := s[i]; {
		case c == 10:
			endLine()
		case off:
		case c == 35:
			off = true
		case c == 32:
			endWord()
		default:
			word += string(rune(c))
		}
	}
	endLine()
	return list, 0, api.OK
}

// same reports whether two lists have the same lines; nil and empty ones are equal.
func same(a, b []api.Line) bool {
	return len(a) == 0 && len(b) == 0 || reflect.DeepEqual(a, b)
}

// wantLines fails the test unless s has these lines.
func wantLines(t *testing.T, s string, want ...api.Line) {
	list, line, e := Lines(s)
	if !same(list, want) || line != 0 || e != api.OK {
		t.Errorf("Lines(%.60q) = %v, %d, %d, want %v", s, list, line, e, want)
	}
}

// wantError fails the test unless s has this error in this line, and no lines.
func wantError(t *testing.T, s string, n int, want api.Errno) {
	list, line, e := Lines(s)
	if len(list) != 0 || line != n || e != want {
		t.Errorf("Lines(%.60q) of %d bytes = %v, %d, %d, want line %d, error %d", s, len(s), list, line, e, n, want)
	}
}

// wantSame fails the test unless s has the lines, or the error, that the document says.
func wantSame(t *testing.T, s string) {
	list, line, e := Lines(s)
	wantList, wantLine, wantE := slowLines(s)
	if !same(list, wantList) || line != wantLine || e != wantE {
		t.Errorf("Lines(%.60q) = %v, %d, %d, want %v, %d, %d", s, list, line, e, wantList, wantLine, wantE)
	}
}

// line returns a line with a number and words.
func line(n int, words ...string) api.Line {
	return api.Line{N: n, Words: words}
}

// isText reports whether c may be in a text.
func isText(c int) bool {
	return c == 10 || c >= 32 && c <= 126
}

// P11.1: the example of the document, with and without a byte 10 at the end.
func TestLinesOfTheExample(t *testing.T) {
	wantLines(t, "a b # c\n\nd", line(1, "a", "b"), line(3, "d"))
	wantLines(t, "a b # c\n\nd\n", line(1, "a", "b"), line(3, "d"))
}

// P11.1: words are parted by one space or several; those in front and behind make no words.
func TestLinesSpaces(t *testing.T) {
	for _, s := range []string{"ab c", " ab c", "ab c ", "ab  c", "   ab   c   ", "ab" + strings.Repeat(" ", 4090) + "c"} {
		wantLines(t, s, line(1, "ab", "c"))
		wantLines(t, "\n"+strings.TrimRight(s, " "), line(2, "ab", "c"))
	}
	wantLines(t, "abc", line(1, "abc"))
	wantLines(t, " abc ", line(1, "abc"))
	wantLines(t, "a b\nc", line(1, "a", "b"), line(2, "c"))
	wantLines(t, "a \n b", line(1, "a"), line(2, "b"))
}

// P11.1: what is behind a # is left out, wherever it is, up to the end of its line and no further.
func TestLinesComments(t *testing.T) {
	for s, want := range map[string][]api.Line{
		"#a":             nil,
		" # a b":         nil,
		"##":             nil,
		"#":              nil,
		"a#b":            {line(1, "a")},
		"a #b":           {line(1, "a")},
		"a# b":           {line(1, "a")},
		"a b#":           {line(1, "a", "b")},
		"a b #":          {line(1, "a", "b")},
		"a#b#c":          {line(1, "a")},
		"a #b c# d #e f": {line(1, "a")},
		"a## b":          {line(1, "a")},
		"a # b\nc":       {line(1, "a"), line(2, "c")},
		"a#\nc#d\n#e\nf": {line(1, "a"), line(2, "c"), line(4, "f")},
		"#a\nb":          {line(2, "b")},
		"a\n#b\nc":       {line(1, "a"), line(3, "c")},
		"a\nb #":         {line(1, "a"), line(2, "b")},
		"a\n#":           {line(1, "a")},
		"//a 'b' \"#\"":  {line(1, "//a", "'b'", "\"")},
	} {
		wantLines(t, s, want...)
		wantLines(t, s+"\n", want...)
	}
}

// P11.1: lines without words are not returned, but counted.
func TestLinesWithoutWords(t *testing.T) {
	for _, s := range []string{"", "\n", "\n\n\n", " ", "  \n ", "#", "# a b\n #\n  # c", " \n#\n\n", strings.Repeat("\n", 4096), strings.Repeat(" ", 4096), strings.Repeat("#", 4096)} {
		wantLines(t, s)
	}
	for _, empty := range []string{"\n", " \n", "   \n", "#\n", " # a b\n", "##a\n"} {
		for n := range 20 {
			front := strings.Repeat(empty, n)
			wantLines(t, front+"a b", line(n+1, "a", "b"))
			wantLines(t, front+"a b\n"+front+"c\n"+front, line(n+1, "a", "b"), line(2*n+2, "c"))
		}
	}
}

// P11.1: the last line counts with and without a byte 10, and what is behind that byte is another line.
func TestLinesLastLine(t *testing.T) {
	for _, front := range []string{"", "a b", "a b\n", "\n\n", "#\n \n"} {
		for _, last := range []string{"c", "c d", " c d ", "c#d", "#c", " "} {
			wantSame(t, front+"\n"+last)
			wantSame(t, front+"\n"+last+"\n")
			wantSame(t, front+"\n"+last+"\n\n")
			wantSame(t, front+"\n"+last+"\n ")
			wantSame(t, front+"\n"+last+"\ne")
		}
	}
	wantLines(t, "a\nb", line(1, "a"), line(2, "b"))
	wantLines(t, "a\nb\n", line(1, "a"), line(2, "b"))
	wantLines(t, "a\nb\n\n", line(1, "a"), line(2, "b"))
}

// P11.1: every byte from 32 to 126 is allowed; only the space and the # are no part of a word.
func TestLinesOfEachByteOfAText(t *testing.T) {
	for c := 33; c <= 126; c++ {
		b := string(rune(c))
		if b == "#" {
			continue
		}
		wantLines(t, b, line(1, b))
		wantLines(t, "a"+b+"c "+b+"\n"+b+b, line(1, "a"+b+"c", b), line(2, b+b))
		wantLines(t, "a #"+b+"\nd", line(1, "a"), line(2, "d"))
	}
	all := ""
	for c := 36; c <= 126; c++ {
		all += string(rune(c))
	}
	wantLines(t, all, line(1, all))
	wantLines(t, "! \""+all, line(1, "!", "\""+all))
}

// P11.1: each of the 256 bytes in each place of a text: the line is that of the byte.
func TestLinesOfEachByte(t *testing.T) {
	for c := range 256 {
		b := string([]byte{byte(c)})
		for _, p := range []struct {
			front, behind string
			line          int
		}{
			{"", "", 1},
			{"", "a b\n", 1},
			{"a", "b", 1},
			{"a ", "\nb", 1},
			{"a b", "\n\n\n", 1},
			{"a\n", "", 2},
			{"a\n", "\n", 2},
			{"a\nb ", "c\nd", 2},
			{"a\n\n# \nb", "\nc", 4},
			{"a\n\n# \nb", "", 4},
			{"a\n\n# \nb", "\n", 4},
			{"\n\n\n\n", "", 5},
			{" \n  \n", "c", 3},
			{"#", "", 1},
			{"#", "\n", 1},
			{"a #b", "c\nd", 1},
			{"a\n b # c", "\n", 2},
			{"a\n b ##", "#", 2},
			{strings.Repeat("\n", 4095), "", 4096},
			{strings.Repeat("a\n", 2047), "b", 2048},
			{strings.Repeat(" ", 4095), "", 1},
			{"", strings.Repeat("a", 4095), 1},
		} {
			s := p.front + b + p.behind
			wantSame(t, s)
			if !isText(c) {
				wantError(t, s, p.line, api.ErrText)
			} else if _, _, e := Lines(s); e != api.OK {
				t.Errorf("Lines(%.60q): error %d", s, e)
			}
		}
	}
}

// P11.1: all pairs of bytes: the first one may be a line's end, an invalid one, or make a rune with the second.
func TestLinesOfAllPairsOfBytes(t *testing.T) {
	for c := range 256 {
		for d := range 256 {
			s := string([]byte{byte(c), byte(d)})
			list, n, e := Lines(s)
			bad, want := !isText(c) || !isText(d), 0
			if bad {
				want = 1
			}
			if c == 10 && !isText(d) {
				want = 2
			}
			if (e == api.ErrText) != bad || n != want || bad && len(list) != 0 {
				t.Errorf("Lines(%q) = %v, %d, %d, want line %d", s, list, n, e, want)
			}
			wantSame(t, s)
		}
	}
}

// P11.1 and R2: the first of several invalid bytes is the one whose line is told.
func TestLinesFirstInvalidByte(t *testing.T) {
	for _, b := range []string{"\x00", "\t", "\v", "\f", "\r", "\x1b", "\x1f", "\x7f", "\x80", "\x8a", "\xa0", "\xa3", "\xc2", "\xff"} {
		for _, other := range []string{"\x00", "\t", "\x7f", "\x80", "\xff"} {
			wantError(t, b+other, 1, api.ErrText)
			wantError(t, b+"\n"+other, 1, api.ErrText)
			wantError(t, "a\n"+b+"\n"+other+"\n"+b, 2, api.ErrText)
			wantError(t, "\n\n \n"+b+"\n\n"+other, 4, api.ErrText)
			wantError(t, "a b#"+b+"\nc"+other, 1, api.ErrText)
			wantError(t, "#\n#\na\n#"+b+"\n"+other, 4, api.ErrText)
		}
	}
}

// P11.1: runes of several bytes are invalid, whatever they look like; a carriage return is no end of a line.
func TestLinesRunes(t *testing.T) {
	for _, s := range []string{"\u00e9", "\u00a0", "\u0085", "\u2003", "\u2028", "\u3000", "\ufeff", "\ufffd", "\uff03", "\U0001f600", "\xc0\x8a", "\xc1\xa1", "\xe0\x80\xa0", "\xed\xa0\x80", "\xf8\x88\x80\x80\x80", "\r", "\r\n", "\r\r"} {
		wantError(t, s, 1, api.ErrText)
		wantError(t, "a b\n\n"+s+"\n", 3, api.ErrText)
		wantError(t, "a\rb\n"+s, 1, api.ErrText)
		wantError(t, "a\n#"+s, 2, api.ErrText)
	}
}

// P11.1 and R2: 4096 bytes may be there, 4097 not, also where there is an invalid byte; then the line is 0.
func TestLinesOver(t *testing.T) {
	for _, b := range []string{"a", " ", "\n", "#", "\t", "\x00", "\xff", "\x7f"} {
		bad := !isText(int(b[0]))
		for _, n := range []int{1, 2, 4094, 4095, 4096} {
			s := strings.Repeat(b, n)
			wantSame(t, s)
			if bad {
				wantError(t, s, 1, api.ErrText)
			}
		}
		for _, n := range []int{4097, 4098, 5000, 8192, 65536, 70000, 1 << 20} {
			s := strings.Repeat(b, n)
			wantError(t, s, 0, api.ErrOver)
			wantError(t, s[1:]+"a", 0, api.ErrOver)
			wantError(t, "a"+s[1:], 0, api.ErrOver)
			wantError(t, s[:n/2]+"\n"+s[:n-n/2-1], 0, api.ErrOver)
		}
	}
	wantLines(t, strings.Repeat("a", 4096), line(1, strings.Repeat("a", 4096)))
	wantLines(t, strings.Repeat("\n", 4095)+"a", line(4096, "a"))
	wantError(t, strings.Repeat("\n", 4095)+"\t", 4096, api.ErrText)
	wantError(t, strings.Repeat("\n", 4096)+"\t", 0, api.ErrOver)
	wantError(t, strings.Repeat("\u00e9", 2048), 1, api.ErrText)
	wantError(t, strings.Repeat("\u00e9", 2049), 0, api.ErrOver)
	wantError(t, strings.Repeat("\U0001f600", 1025), 0, api.ErrOver)
	wantError(t, "a #"+strings.Repeat(" ", 4094), 0, api.ErrOver)
}

// P11.1: as many lines and words as a text can have.
func TestLinesMany(t *testing.T) {
	list, n, e := Lines(strings.Repeat("a\n", 2048))
	if len(list) != 2048 || n != 0 || e != api.OK {
		t.Fatal(len(list), n, e)
	}
	for i, l := range list {
		if !reflect.DeepEqual(l, line(i+1, "a")) {
			t.Fatal(i, l)
		}
	}
	list, n, e = Lines(strings.Repeat("b ", 2048))
	if len(list) != 1 || n != 0 || e != api.OK || list[0].N != 1 || len(list[0].Words) != 2048 {
		t.Fatal(list, n, e)
	}
	for _, w := range list[0].Words {
		if w != "b" {
			t.Fatal(w)
		}
	}
}

// P11.1: every text of up to 6 of the bytes that make a difference.
func TestLinesOfAllShortTexts(t *testing.T) {
	var all func(s string, n int)
	all = func(s string, n int) {
		wantSame(t, s)
		if n == 0 {
			return
		}
		for _, c := range []string{"a", " ", "#", "\n", "\t"} {
			all(s+c, n-1)
		}
	}
	all("", 6)
}

// P11.1: arbitrary texts, mostly right ones.
func TestLinesOfArbitraryTexts(t *testing.T) {
	r := rand.New(rand.NewSource(11))
	const usual = "ab7.  ##\n\n-"
	for range 4000 {
		b := make([]byte, r.Intn(120))
		for i := range b {
			b[i] = usual[r.Intn(len(usual))]
			if r.Intn(10) == 0 {
				b[i] = byte(32 + r.Intn(95))
			}
			if r.Intn(300) == 0 {
				b[i] = byte(r.Intn(256))
			}
		}
		wantSame(t, string(b))
	}
	for range 300 {
		b := make([]byte, 4000+r.Intn(200))
		for i := range b {
			b[i] = usual[r.Intn(len(usual))]
		}
		if r.Intn(2) == 0 {
			b[r.Intn(len(b))] = byte(r.Intn(256))
		}
		wantSame(t, string(b))
	}
}

// R4: neither the list nor the words of its lines share memory, not even behind their ends.
func TestLinesShareNothing(t *testing.T) {
	const s = "a b c\nd e # f\n\ng\nh i j k l"
	first, _, _ := Lines(s)
	second, _, _ := Lines(s)
	want, _, _ := slowLines(s)
	for i := range first {
		words := first[i].Words
		for j := range words[:cap(words)] {
			words[:cap(words)][j] = "x"
		}
		for j := range first {
			if j > i && !reflect.DeepEqual(first[j], want[j]) {
				t.Errorf("line %d changed with line %d: %v", j, i, first[j])
			}
		}
	}
	for i := range first[:cap(first)] {
		first[:cap(first)][i] = line(9, "y")
	}
	third, _, _ := Lines(s)
	if !same(second, want) || !same(third, want) {
		t.Error(second, third)
	}
}

// wantNumber fails the test unless s is this number.
func wantNumber(t *testing.T, s string, want int) {
	if n, ok := Number(s); n != want || !ok {
		t.Errorf("Number(%.60q) = %d, %v, want %d", s, n, ok, want)
	}
}

// wantNone fails the test unless s is no number.
func wantNone(t *testing.T, s string) {
	if n, ok := Number(s); n != 0 || ok {
		t.Errorf("Number(%.60q) of %d bytes = %d, %v", s, len(s), n, ok)
	}
}

// slowNumber goes by the document's definition: s is what a number up to 2^62 is written as.
func slowNumber(s string) (int, bool) {
	n, ok := new(big.Int).SetString(s, 10)
	if !ok || n.String() != s || n.Sign() < 0 || n.Cmp(new(big.Int).Lsh(big.NewInt(1), 62)) > 0 {
		return 0, false
	}
	return int(n.Int64()), true
}

// P11.2: each digit, and all numbers of up to 5 of them.
func TestNumberOfSmallNumbers(t *testing.T) {
	for i, s := range []string{"0", "1", "2", "3", "4", "5", "6", "7", "8", "9"} {
		wantNumber(t, s, i)
	}
	for n := range 100000 {
		wantNumber(t, fmt.Sprint(n), n)
	}
}

// P11.2: numbers of every length, with each digit in each place.
func TestNumberOfEachLength(t *testing.T) {
	want, power := 0, 1
	for size := 1; size <= 18; size++ {
		want = 10*want + size%10
		wantNumber(t, "123456789012345678"[:size], want)
		one := "1" + strings.Repeat("0", size-1)
		wantNumber(t, one, power)
		wantNumber(t, strings.Repeat("9", size), 10*power-1)
		for d := 1; d <= 9; d++ {
			place := 1
			for i := size - 1; i > 0; i-- {
				wantNumber(t, one[:i]+fmt.Sprint(d)+one[i+1:], power+d*place)
				place *= 10
			}
			wantNumber(t, fmt.Sprint(d)+one[1:], d*power)
		}
		power *= 10
	}
	for d := 1; d <= 4; d++ {
		wantNumber(t, fmt.Sprint(d)+strings.Repeat("0", 18), d*power)
	}
	for d := 5; d <= 9; d++ {
		wantNone(t, fmt.Sprint(d)+strings.Repeat("0", 18))
	}
}

// P11.2: a number has no leading zeros; only 0 begins with one.
func TestNumberLeadingZeros(t *testing.T) {
	for n := 1; n <= 5000; n++ {
		wantNone(t, "0"+fmt.Sprint(n))
	}
	for zeros := 2; zeros <= 40; zeros++ {
		wantNone(t, strings.Repeat("0", zeros))
		wantNone(t, strings.Repeat("0", zeros-1)+"7")
		wantNone(t, strings.Repeat("0", zeros-1)+"4611686018427387904")
	}
	wantNumber(t, "0", 0)
	wantNumber(t, "10", 10)
	wantNumber(t, "100200", 100200)
}

// P11.2: bytes that are no digits, in front, inside, behind and alone.
func TestNumberOtherBytes(t *testing.T) {
	wantNone(t, "")
	for c := range 256 {
		if c >= '0' && c <= '9' {
			continue
		}
		b := string([]byte{byte(c)})
		for _, s := range []string{b, b + "1", b + "0", "1" + b, "0" + b, "1" + b + "2", "0" + b + "1", "12" + b + "34", b + b, b + "12" + b, "12345678901234567" + b, "461168601842738790" + b, "4611686018427387904" + b, b + "4611686018427387904", "99999999999999999999" + b} {
			wantNone(t, s)
		}
	}
	for _, s := range []string{"-0", "+0", "-1", "+1", "--1", "1-", "-4611686018427387904", "0x10", "0b1", "0o7", "1e3", "1E3", "1.0", "1.", ".1", "1,000", "1_000", "_1", " 1", "1 ", "1 2", "1\n", "\n1", "\t1", "1\x00", "\x001", "1a", "a1", "one", "nan", "inf", "\u0661", "\uff11", "\u00b2", "1\u0301"} {
		wantNone(t, s)
	}
}

// P11.2: 2^62 is the greatest number; beyond it there is none, also where it would wrap around to a small one.
func TestNumberGreatest(t *testing.T) {
	wantNumber(t, "4611686018427387903", 1<<62-1)
	wantNumber(t, "4611686018427387904", 1<<62)
	wantNone(t, "4611686018427387905")
	for i := range 2000 {
		wantNumber(t, fmt.Sprint(1<<62-i), 1<<62-i)
		wantNone(t, fmt.Sprint(1<<62+1+i))
	}
	wantNumber(t, "4611686018427387899", 4611686018427387899)
	wantNumber(t, "3999999999999999999", 3999999999999999999)
	for _, s := range []string{"4611686018427387910", "4611686018427388000", "5000000000000000000", "9223372036854775806", "9223372036854775807", "9223372036854775808", "9223372036854775809", "9999999999999999999", "10000000000000000000", "18446744073709551615", "18446744073709551616", "18446744073709551617", "23058430092136939520", "46116860184273879040", "46116860184273879041"} {
		wantNone(t, s)
	}
	for shift := uint(63); shift < 200; shift++ {
		power := new(big.Int).Lsh(big.NewInt(1), shift)
		for d := int64(-20); d <= 20; d++ {
			wantNone(t, new(big.Int).Add(power, big.NewInt(d)).String())
		}
		wantNone(t, new(big.Int).Mul(power, big.NewInt(3)).String())
		wantNone(t, new(big.Int).Mul(power, big.NewInt(10)).String())
	}
}

// P11.2: very long numbers.
func TestNumberLong(t *testing.T) {
	for size := 20; size <= 300; size++ {
		for _, d := range []string{"1", "4", "5", "9"} {
			wantNone(t, strings.Repeat(d, size))
			wantNone(t, d+strings.Repeat("0", size-1))
		}
	}
	for _, size := range []int{4096, 4097, 65536, 1 << 20} {
		wantNone(t, strings.Repeat("1", size))
		wantNone(t, strings.Repeat("0", size))
		wantNone(t, "1"+strings.Repeat("0", size-1))
	}
}

// P11.2: arbitrary numbers and texts of digits, against the library's integers.
func TestNumberOfArbitraryTexts(t *testing.T) {
	r := rand.New(rand.NewSource(62))
	const usual = "01234567890123456789012345678901234567890123456789-+ _x"
	for range 50000 {
		b := make([]byte, r.Intn(24))
		for i := range b {
			b[i] = usual[r.Intn(len(usual))]
		}
		s := string(b)
		n, ok := Number(s)
		if want, wantOK := slowNumber(s); n != want || ok != wantOK {
			t.Errorf("Number(%q) = %d, %v, want %d, %v", s, n, ok, want, wantOK)
		}
		v := int(r.Uint64() >> (2 + r.Intn(62)))
		wantNumber(t, fmt.Sprint(v), v)
	}
}

// P11.1 and P11.2: the words of a line may be asked for their numbers.
func TestNumbersOfLines(t *testing.T) {
	list, _, _ := Lines("12 x 07 # 5\n0 4611686018427387904#6")
	for i, want := range [][]int{{12, -1, -1}, {0, 1 << 62}} {
		for j, v := range want {
			if n, ok := Number(list[i].Words[j]); ok != (v >= 0) || ok && n != v {
				t.Error(list[i].Words[j], n, ok)
			}
		}
	}
}

// R5: what a call returns does not depend on the calls before it.
func TestNothingIsKept(t *testing.T) {
	texts := []string{"", "a b # c\n\nd", "a\n\tb", "\n\n\nx", strings.Repeat("\t", 4097), "\xff", "#", "1 2\n3"}
	for range 3 {
		for _, first := range texts {
			for _, second := range texts {
				Lines(first)
				Number(first)
				wantSame(t, second)
				wantNumber(t, "4611686018427387904", 1<<62)
				wantNone(t, "01")
			}
		}
	}
}
