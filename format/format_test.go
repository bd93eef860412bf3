package format_test

import (
	"fmt"
	"math/rand/v2"
	"regexp"
	"slices"
	"strconv"
	"strings"
	"testing"
	"unsafe"

	"postilion/api"
	"postilion/format"
)

const (
	maxWords  = 40
	maxParses = 32
)

// The parts of formats.
var (
	number = api.Part{Kind: api.PartNumber}
	street = api.Part{Kind: api.PartStreet}
	town   = api.Part{Kind: api.PartTown}
	person = api.Part{Kind: api.PartPerson}
)

func word(text string) api.Part { return api.Part{Kind: api.PartWord, Text: text} }
func code(text string) api.Part { return api.Part{Kind: api.PartCode, Text: text} }

func line(parts ...api.Part) []api.Part { return parts }

func formatOf(lines ...[]api.Part) api.Format { return api.Format{Name: "f", Lines: lines} }

// usual is the format of the chapter's examples.
func usual() api.Format {
	return formatOf(line(person), line(street, number), line(code("9999"), town))
}

func wantReadings(t *testing.T, f api.Format, lines []string, want ...api.Address) {
	t.Helper()
	got, errno := format.Parse(f, lines)
	if errno != api.OK || !slices.Equal(got, want) {
		t.Errorf("Parse(%v, %q) = %+v, %d, not %+v", f.Lines, lines, got, errno, want)
	}
}

func wantParseError(t *testing.T, f api.Format, lines []string, errno api.Errno) {
	t.Helper()
	if got, e := format.Parse(f, lines); len(got) != 0 || e != errno {
		t.Errorf("Parse(%v, %q) = %+v, %d, not error %d", f, lines, got, e, errno)
	}
}

func wantPrinted(t *testing.T, f api.Format, a api.Address, want ...string) {
	t.Helper()
	got, errno := format.Print(f, a)
	if errno != api.OK || !slices.Equal(got, want) {
		t.Errorf("Print(%v, %+v) = %q, %d, not %q", f.Lines, a, got, errno, want)
	}
}

func wantUnprinted(t *testing.T, f api.Format, a api.Address) {
	t.Helper()
	if got, errno := format.Print(f, a); len(got) != 0 || errno != api.ErrArg {
		t.Errorf("Print(%v, %+v) = %q, %d, not ErrArg", f, a, got, errno)
	}
}

func wantValid(t *testing.T, f api.Format, want bool) {
	t.Helper()
	if got := format.Valid(f); got != want {
		t.Errorf("Valid(%v) = %t", f, got)
	}
}

// What follows does what the package does, by other ways: with patterns, and by trying all divisions of the words of a line.

var (
	namePattern   = regexp.MustCompile(`^[a-z][a-z0-9_]{0,15}$`)
	fitPattern    = regexp.MustCompile(`^[A-Za-z0-9'.-]{1,20}$`)
	numberPattern = regexp.MustCompile(`^[1-9][0-9]{0,3}$`)
	codePattern   = regexp.MustCompile(`^[9A]{1,8}$`)
	wordPattern   = regexp.MustCompile(`[^ \t]+`)
	namesPattern  = regexp.MustCompile(`^[A-Za-z0-9'.-]{1,20}( [A-Za-z0-9'.-]{1,20}){0,3}$`)
)

func isValid(f api.Format) bool {
	if !namePattern.MatchString(f.Name) || len(f.Lines) == 0 || len(f.Lines) >= 9 {
		return false
	}
	var kinds [7]int
	for _, l := range f.Lines {
		if len(l) == 0 || len(l) >= 9 {
			return false
		}
		for _, p := range l {
			if p.Kind < 1 || p.Kind > 6 {
				return false
			}
			kinds[p.Kind]++
			good := p.Text == ""
			if p.Kind == api.PartWord {
				good = fitPattern.MatchString(p.Text)
			} else if p.Kind == api.PartCode {
				good = codePattern.MatchString(p.Text)
			}
			if !good {
				return false
			}
		}
	}
	return slices.Max(kinds[2:]) <= 1
}

// codeOf returns the pattern of the codes of a part.
func codeOf(p api.Part) *regexp.Regexp {
	return regexp.MustCompile("^" + strings.NewReplacer("9", "[0-9]", "A", "[A-Z]").Replace(p.Text) + "$")
}

// lower returns a text with small letters for the 26 capital ones.
func lower(text string) string {
	b := []byte(text)
	for i, c := range b {
		if c >= 'A' && c <= 'Z' {
			b[i] = c - 'A' + 'a'
		}
	}
	return string(b)
}

// upper returns a text with capital letters for the 26 small ones.
func upper(text string) string {
	b := []byte(text)
	for i, c := range b {
		if c >= 'a' && c <= 'z' {
			b[i] = c - 'a' + 'A'
		}
	}
	return string(b)
}

// give lets a part take words, if it does.
func give(p api.Part, words []string, a *api.Address) bool {
	for _, w := range words {
		if !fitPattern.MatchString(w) {
			return false
		}
	}
	one := len(words) == 1
	joined := strings.Join(words, " ")
	switch p.Kind {
	case api.PartWord:
		return one && lower(joined) == lower(p.Text)
	case api.PartNumber:
		fmt.Sscan(joined, &a.Number)
		return one && numberPattern.MatchString(joined)
	case api.PartCode:
		a.Code = upper(joined)
		return one && codeOf(p).MatchString(a.Code)
	case api.PartStreet:
		a.Street = joined
	case api.PartTown:
		a.Town = joined
	default:
		a.Person = joined
	}
	return len(words) >= 1 && len(words) <= 4
}

// divisions yields all ways to divide n words among some parts, each of which gets one at least, in order.
func divisions(n, parts int, yield func([]int)) {
	var extend func(have []int, left int)
	extend = func(have []int, left int) {
		if len(have) == parts {
			if left == 0 {
				yield(have)
			}
			return
		}
		for k := 1; k <= left; k++ {
			extend(append(slices.Clip(have), k), left-k)
		}
	}
	extend(nil, n)
}

// readingsOf returns all readings, and the numbers of words that their parts take.
func readingsOf(f api.Format, lines []string) ([]api.Address, [][]int) {
	if len(lines) != len(f.Lines) {
		return nil, nil
	}
	l, counts := []api.Address{{}}, [][]int{nil}
	for i, parts := range f.Lines {
		words := wordPattern.FindAllString(lines[i], -1)
		var longer []api.Address
		var longerCounts [][]int
		for j, a := range l {
			divisions(len(words), len(parts), func(n []int) {
				next, at := a, 0
				for k, p := range parts {
					if !give(p, words[at:at+n[k]], &next) {
						return
					}
					at += n[k]
				}
				longer = append(longer, next)
				longerCounts = append(longerCounts, slices.Concat(counts[j], n))
			})
		}
		l, counts = longer, longerCounts
	}
	return l, counts
}

func countWords(lines []string) int {
	n := 0
	for _, l := range lines {
		n += len(wordPattern.FindAllString(l, -1))
	}
	return n
}

func parse(f api.Format, lines []string) ([]api.Address, api.Errno) {
	if !isValid(f) {
		return nil, api.ErrArg
	}
	if countWords(lines) > maxWords {
		return nil, api.ErrLimit
	}
	l, _ := readingsOf(f, lines)
	return l, api.OK
}

// fits reports whether an address fits a format: each field, as the format has it or not.
func fits(f api.Format, a api.Address) bool {
	var has [7]bool
	pattern := regexp.MustCompile("^$")
	for _, l := range f.Lines {
		for _, p := range l {
			has[p.Kind] = true
			if p.Kind == api.PartCode {
				pattern = codeOf(p)
			}
		}
	}
	names := func(kind int, text string) bool {
		return has[kind] && namesPattern.MatchString(text) || !has[kind] && text == ""
	}
	return (has[api.PartNumber] && a.Number >= 1 && a.Number <= 9999 || !has[api.PartNumber] && a.Number == 0) &&
		pattern.MatchString(a.Code) && names(api.PartStreet, a.Street) && names(api.PartTown, a.Town) && names(api.PartPerson, a.Person)
}

func printed(f api.Format, a api.Address) ([]string, api.Errno) {
	if !isValid(f) || !fits(f, a) {
		return nil, api.ErrArg
	}
	var l []string
	for _, parts := range f.Lines {
		var texts []string
		for _, p := range parts {
			texts = append(texts, []string{p.Text, fmt.Sprint(a.Number), a.Code, a.Street, a.Town, a.Person}[p.Kind-1])
		}
		l = append(l, strings.Join(texts, " "))
	}
	return l, api.OK
}

// wantSame checks that the functions do what is done here.
func wantSame(t *testing.T, f api.Format, lines []string) {
	t.Helper()
	wantValid(t, f, isValid(f))
	l, errno := parse(f, lines)
	if errno != api.OK {
		wantParseError(t, f, lines, errno)
		return
	}
	wantReadings(t, f, lines, l...)
}

func wantSamePrinted(t *testing.T, f api.Format, a api.Address) {
	t.Helper()
	if l, errno := printed(f, a); errno == api.OK {
		wantPrinted(t, f, a, l...)
	} else {
		wantUnprinted(t, f, a)
	}
}

func source() *rand.Rand { return rand.New(rand.NewPCG(4, 1)) }

func pick[T any](r *rand.Rand, l []T) T { return l[r.IntN(len(l))] }

var fitWords = []string{"A", "b", "Old", "Town", "St.", "O'Hara", "-", "'", ".", "1", "12", "012", "0", "9999", "10000", "1a", "A1", "a9", "AB", "ab", "Ab", "lane", "Lane", "1000", strings.Repeat("x", 20), "12-14"}

var unfitWords = []string{"é", "a,b", "a_b", "ſt", "\u212a", "\n", "a\nb", "\r", "\v", "\f", "\x00", "\xff", "\u00a0", "１", "a/b", "#", "+1", strings.Repeat("x", 21), strings.Repeat("1", 400)}

var (
	literals = []string{"lane", "LANE", "A", "12", "St.", "-", "'", "O'Hara", strings.Repeat("x", 20)}
	patterns = []string{"9", "A", "99", "9A", "A9", "AA", "9999", "AAAAAAAA", "99999999", "A9A9A9A9"}
)

// randomFormat returns a well-formed format.
func randomFormat(r *rand.Rand) api.Format {
	parts := []api.Part{number, street, town, person, code(pick(r, patterns))}
	r.Shuffle(len(parts), func(i, j int) { parts[i], parts[j] = parts[j], parts[i] })
	parts = parts[:r.IntN(len(parts)+1)]
	for len(parts) == 0 || r.IntN(3) == 0 {
		parts = slices.Insert(parts, r.IntN(len(parts)+1), word(pick(r, literals)))
	}
	f := api.Format{Name: "f"}
	for len(parts) > 0 {
		n := min(1+r.IntN(8), len(parts))
		if len(f.Lines) == 7 {
			n = min(8, len(parts))
		}
		f.Lines = append(f.Lines, slices.Clone(parts[:n]))
		parts = parts[n:]
	}
	return f
}

func randomCase(r *rand.Rand, text string) string {
	b := []byte(text)
	for i := range b {
		if r.IntN(2) == 0 {
			b[i] = lower(text)[i]
		} else {
			b[i] = upper(text)[i]
		}
	}
	return string(b)
}

func randomCode(r *rand.Rand, pattern string) string {
	b := []byte(pattern)
	for i, c := range b {
		if c == '9' {
			b[i] = byte('0' + r.IntN(10))
		} else {
			b[i] = byte('A' + r.IntN(26))
		}
	}
	return string(b)
}

// randomNames returns one to four fit words.
func randomNames(r *rand.Rand) string {
	var l []string
	for range 1 + r.IntN(4) {
		l = append(l, pick(r, fitWords))
	}
	return strings.Join(l, " ")
}

// randomAddress returns an address that fits a format.
func randomAddress(r *rand.Rand, f api.Format) api.Address {
	var a api.Address
	for _, l := range f.Lines {
		for _, p := range l {
			switch p.Kind {
			case api.PartNumber:
				a.Number = pick(r, []int{1, 9, 10, 99, 100, 999, 1000, 9999, 1 + r.IntN(9999)})
			case api.PartCode:
				a.Code = randomCode(r, p.Text)
			case api.PartStreet:
				a.Street = randomNames(r)
			case api.PartTown:
				a.Town = randomNames(r)
			case api.PartPerson:
				a.Person = randomNames(r)
			}
		}
	}
	return a
}

// randomLines returns lines for a format: most often with a reading.
func randomLines(r *rand.Rand, f api.Format) []string {
	lines, errno := printed(f, randomAddress(r, f))
	if errno != api.OK {
		panic("the address does not fit")
	}
	for i, l := range lines {
		words := strings.Fields(l)
		for j := range words {
			if !slices.Contains(fitWords, words[j]) || r.IntN(4) == 0 {
				words[j] = randomCase(r, words[j])
			}
		}
		switch r.IntN(12) {
		case 0:
			words = slices.Insert(words, r.IntN(len(words)+1), pick(r, fitWords))
		case 1:
			words = slices.Delete(words, 0, 1)
		case 2:
			words[r.IntN(len(words))] = pick(r, fitWords)
		}
		lines[i] = blank(r, words)
	}
	return lines
}

// blank returns a line with some blanks and tabs around words.
func blank(r *rand.Rand, words []string) string {
	gaps := []string{" ", "\t", "  ", " \t ", "\t\t", strings.Repeat(" ", 50)}
	var b strings.Builder
	for i, w := range words {
		if i > 0 || r.IntN(4) == 0 {
			b.WriteString(pick(r, gaps))
		}
		b.WriteString(w)
	}
	if r.IntN(4) == 0 {
		b.WriteString(pick(r, gaps))
	}
	return b.String()
}

func TestP4_1Examples(t *testing.T) {
	wantReadings(t, usual(), []string{"Ada Byron", "Long Lane 12", "1000 Old Town"},
		api.Address{Person: "Ada Byron", Street: "Long Lane", Number: 12, Code: "1000", Town: "Old Town"})
	wantReadings(t, usual(), []string{"Ada", "Lane 012", "1000 Town"})
	wantReadings(t, usual(), []string{"Ada", "12", "1000 Town"})
	wantReadings(t, formatOf(line(street, town)), []string{"A B C"}, api.Address{Street: "A", Town: "B C"}, api.Address{Street: "A B", Town: "C"})
	wantPrinted(t, usual(), api.Address{Person: "Ada Byron", Street: "Long Lane", Number: 12, Code: "1000", Town: "Old Town"},
		"Ada Byron", "Long Lane 12", "1000 Old Town")
}

func TestP4_1ValidNames(t *testing.T) {
	check := func(name string, want bool) {
		t.Helper()
		f := usual()
		f.Name = name
		wantValid(t, f, want)
		if _, errno := format.Parse(f, nil); (errno == api.OK) != want {
			t.Errorf("Parse with the name %q: %d", name, errno)
		}
	}
	for n := 1; n <= 16; n++ {
		check(strings.Repeat("n", n), true)
		check("n"+strings.Repeat("_", n-1), true)
		check("z"+strings.Repeat("9", n-1), true)
	}
	for _, name := range []string{"", strings.Repeat("n", 17), strings.Repeat("n", 18), strings.Repeat("n", 1000), "é", "né", "1n", "_n", "N", "nN", "n n", " n", "n ", "n-1", "n\n"} {
		check(name, false)
	}
	for b := range 256 {
		c := string([]byte{byte(b)})
		small := c >= "a" && c <= "z"
		check(c, small)
		check(c+"a", small)
		check("a"+c, small || c >= "0" && c <= "9" || c == "_")
		check("abcdefghijklmno"+c, small || c >= "0" && c <= "9" || c == "_")
	}
}

func TestP4_1ValidLines(t *testing.T) {
	wantValid(t, api.Format{}, false)
	wantValid(t, api.Format{Name: "f"}, false)
	wantValid(t, api.Format{Lines: [][]api.Part{{number}}}, false)
	for n := range 12 {
		var lines [][]api.Part
		var parts []api.Part
		for range n {
			lines = append(lines, line(word("a")))
			parts = append(parts, word("b"))
		}
		ok := n >= 1 && n <= 8
		wantValid(t, formatOf(lines...), ok)
		wantValid(t, formatOf(parts), ok)
		wantValid(t, formatOf(line(town), parts), ok)
		wantValid(t, formatOf(parts, line(town)), ok)
	}
	full := slices.Repeat([][]api.Part{slices.Repeat([]api.Part{word("a")}, 8)}, 8)
	wantValid(t, formatOf(full...), true)
	wantValid(t, formatOf(append(full, line(word("a")))...), false)
	wantValid(t, formatOf(slices.Repeat([][]api.Part{{word("a")}}, 100000)...), false)
	wantValid(t, formatOf(slices.Repeat([]api.Part{word("a")}, 100000)), false)
}

func TestP4_1ValidKinds(t *testing.T) {
	all := []api.Part{word("a"), number, code("9"), street, town, person}
	wantValid(t, formatOf(all), true)
	for _, k := range []int{0, -1, 7, 8, 1 << 40, -1 << 63, 1<<63 - 1} {
		for _, text := range []string{"", "a", "9", "A"} {
			wantValid(t, formatOf(line(api.Part{Kind: k, Text: text})), false)
			wantValid(t, formatOf(line(town), line(number, api.Part{Kind: k, Text: text})), false)
		}
	}
	for _, p := range all {
		wantValid(t, formatOf(line(p)), true)
		wantValid(t, formatOf(line(p, p)), p.Kind == api.PartWord)
		wantValid(t, formatOf(line(p), line(p)), p.Kind == api.PartWord)
		wantValid(t, formatOf(line(p), line(word("x"), word("y")), line(word("z"), p)), p.Kind == api.PartWord)
		for _, q := range all {
			wantValid(t, formatOf(line(p, q)), p != q || p.Kind == api.PartWord)
			wantValid(t, formatOf(line(p, q, p)), p.Kind == api.PartWord)
		}
	}
	wantValid(t, formatOf(line(code("9"), code("A"))), false)
	wantValid(t, formatOf(line(code("99")), line(town), line(code("99"))), false)
}

func TestP4_1ValidTexts(t *testing.T) {
	texts := append([]string{"", "9", "A", "a", "8", "9A", "A9A9A9A9", "AAAAAAAAA", "999999999", "99999999", "B", "9 9", " ", "9a", "a9", strings.Repeat("9", 20), strings.Repeat("9", 21)}, fitWords...)
	texts = append(texts, unfitWords...)
	for b := range 256 {
		c := string([]byte{byte(b)})
		texts = append(texts, c, "9"+c, c+"A", "A"+c+"9", "9999999"+c, "A123456789012345678"+c)
	}
	for _, text := range texts {
		for kind := range 9 {
			wantValid(t, formatOf(line(api.Part{Kind: kind, Text: text})), isValid(formatOf(line(api.Part{Kind: kind, Text: text}))))
		}
		wantValid(t, formatOf(line(word(text))), fitPattern.MatchString(text))
		wantValid(t, formatOf(line(code(text))), codePattern.MatchString(text))
	}
	for n := range 30 {
		wantValid(t, formatOf(line(word(strings.Repeat("w", n)))), n >= 1 && n <= 20)
		wantValid(t, formatOf(line(code(strings.Repeat("A", n)))), n >= 1 && n <= 8)
		wantValid(t, formatOf(line(code(strings.Repeat("9", n)))), n >= 1 && n <= 8)
	}
}

func TestP4_1Words(t *testing.T) {
	for _, x := range []struct {
		line  string
		words []string
	}{
		{"", nil}, {" ", nil}, {"\t", nil}, {" \t \t\t  ", nil}, {"a", []string{"a"}}, {" a", []string{"a"}}, {"a\t", []string{"a"}}, {"a b", []string{"a", "b"}},
		{"\t a \t b\tc  ", []string{"a", "b", "c"}}, {"a\nb c\r", []string{"a\nb", "c\r"}}, {"\n", []string{"\n"}}, {"\v \f", []string{"\v", "\f"}},
		{"a\u00a0b", []string{"a\u00a0b"}}, {"é ü\u2003x", []string{"é", "ü\u2003x"}}, {"\xff \xfe\t\x80", []string{"\xff", "\xfe", "\x80"}}, {"\x00 \x00", []string{"\x00", "\x00"}}, {"a,b;c d", []string{"a,b;c", "d"}},
		{strings.Repeat("x", 5000), []string{strings.Repeat("x", 5000)}}, {strings.Repeat("x ", 500), slices.Repeat([]string{"x"}, 500)},
	} {
		if got := format.Words(x.line); !slices.Equal(got, x.words) {
			t.Errorf("Words(%q) = %q", x.line, got)
		}
	}
	for b := range 256 {
		c := string([]byte{byte(b)})
		for _, l := range []string{c, c + c, "a" + c + "b", " " + c + "\t", "é" + c + "é"} {
			if got := format.Words(l); !slices.Equal(got, wordPattern.FindAllString(l, -1)) {
				t.Errorf("Words(%q) = %q", l, got)
			}
		}
	}
}

func TestP4_1LiteralWords(t *testing.T) {
	f := formatOf(line(word("Lane"), number))
	for _, w := range []string{"Lane", "lane", "LANE", "lAnE"} {
		wantReadings(t, f, []string{w + " 7"}, api.Address{Number: 7})
	}
	for _, w := range []string{"", "Lan", "Lanes", "ane", "Lane.", "La ne", "Lane Lane", "7", "L4ne"} {
		wantReadings(t, f, []string{w + " 7"})
	}
	wantReadings(t, formatOf(line(word("K"))), []string{"\u212a"})
	wantReadings(t, formatOf(line(word("st"))), []string{"ſt"})
	wantReadings(t, formatOf(line(word("a"))), []string{"A"}, api.Address{})
	wantReadings(t, formatOf(line(word("a"), word("A"), word("-.'"))), []string{"A a -.'"}, api.Address{})
	wantReadings(t, formatOf(line(word("a"), word("b"))), []string{"b a"})
	wantReadings(t, formatOf(line(word(strings.Repeat("x", 20)))), []string{strings.Repeat("X", 20)}, api.Address{})
	for b := range 256 {
		for c := range 128 {
			if text := string(rune(c)); fitPattern.MatchString(text) {
				wantSame(t, formatOf(line(word(text))), []string{string([]byte{byte(b)})})
			}
		}
	}
}

func TestP4_1Numbers(t *testing.T) {
	f := formatOf(line(number))
	for n := 1; n <= 9999; n++ {
		wantReadings(t, f, []string{strconv.Itoa(n)}, api.Address{Number: n})
	}
	for n := 10000; n <= 20000; n += 7 {
		wantReadings(t, f, []string{strconv.Itoa(n)})
	}
	for _, w := range []string{"", "0", "00", "01", "012", "0012", "0000", "00001", "10000", "99999", "99999999999999999999", "-1", "+1", "1.", "1.0", "1a", "a1", "a", "1-2", "1'", "0x1", "1_0", "1 2", "１", "1\n", strings.Repeat("1", 400)} {
		wantReadings(t, f, []string{w})
	}
	for b := range 256 {
		c := string([]byte{byte(b)})
		for _, w := range []string{c, "1" + c, c + "1", "12" + c + "4", "123" + c, c + "234"} {
			wantSame(t, f, []string{w})
		}
	}
}

func TestP4_1Codes(t *testing.T) {
	for _, x := range []struct{ pattern, word, code string }{
		{"9999", "1000", "1000"}, {"9999", "0000", "0000"}, {"9", "0", "0"}, {"A", "z", "Z"}, {"A", "Q", "Q"}, {"9A", "1a", "1A"}, {"A9", "b0", "B0"},
		{"AAAAAAAA", "abCDefGH", "ABCDEFGH"}, {"99999999", "00000001", "00000001"}, {"A9A9A9A9", "a1b2C3d4", "A1B2C3D4"},
		{"9999", "100", ""}, {"9999", "10000", ""}, {"9999", "100a", ""}, {"9999", "a000", ""}, {"A", "1", ""}, {"9", "a", ""}, {"9", "9A", ""}, {"9A", "A9", ""}, {"AA", "a.", ""}, {"AA", "-a", ""},
		{"99", "1-", ""}, {"9", "", ""}, {"A", "é", ""}, {"AA", "é", ""}, {"AA", "A A", ""}, {"AAA", "\u212a", ""}, {"AA", "ſ", ""}, {"A", "A A", ""},
	} {
		f := formatOf(line(code(x.pattern)))
		if x.code == "" {
			wantReadings(t, f, []string{x.word})
		} else {
			wantReadings(t, f, []string{x.word}, api.Address{Code: x.code})
		}
	}
	for b := range 256 {
		c := string([]byte{byte(b)})
		for _, p := range []string{"9", "A", "99", "AA", "9A", "A9", "999"} {
			for _, w := range []string{c, c + c, "1" + c, c + "1", "a" + c, c + "a", "12" + c, "1" + c + "2"} {
				wantSame(t, formatOf(line(code(p))), []string{w})
			}
		}
	}
}

func TestP4_1Names(t *testing.T) {
	words := strings.Fields("Ada. 0 O'Hara-b 99 E F G H")
	for n := range words {
		l := []string{" " + strings.Join(words[:n], "  \t") + " "}
		text := strings.Join(words[:n], " ")
		if n >= 1 && n <= 4 {
			wantReadings(t, formatOf(line(street)), l, api.Address{Street: text})
			wantReadings(t, formatOf(line(town)), l, api.Address{Town: text})
			wantReadings(t, formatOf(line(person)), l, api.Address{Person: text})
			continue
		}
		wantReadings(t, formatOf(line(street)), l)
		wantReadings(t, formatOf(line(town)), l)
		wantReadings(t, formatOf(line(person)), l)
	}
	wantReadings(t, formatOf(line(street)), []string{"lOnG lane"}, api.Address{Street: "lOnG lane"})
}

func TestP4_1FitWords(t *testing.T) {
	for _, p := range []api.Part{street, town, person} {
		for n := range 45 {
			wantSame(t, formatOf(line(p)), []string{strings.Repeat("x", n)})
			wantSame(t, formatOf(line(p)), []string{"a " + strings.Repeat("-", n) + " b"})
		}
		for b := range 256 {
			c := string([]byte{byte(b)})
			for _, w := range []string{c, c + "a", "a" + c, "a" + c + "b", "abcdefghijklmnopqrs" + c, "abcdefghijklmnopqrst" + c} {
				wantSame(t, formatOf(line(p)), []string{w})
				wantSame(t, formatOf(line(p)), []string{"x " + w})
			}
		}
	}
}

func TestP4_1Readings(t *testing.T) {
	f := formatOf(line(street, number, town))
	wantReadings(t, f, []string{"A 1 B"}, api.Address{Street: "A", Number: 1, Town: "B"})
	wantReadings(t, f, []string{"A 1 2 B"}, api.Address{Street: "A", Number: 1, Town: "2 B"}, api.Address{Street: "A 1", Number: 2, Town: "B"})
	wantReadings(t, f, []string{"1 2 3 4 5 6"}, api.Address{Street: "1", Number: 2, Town: "3 4 5 6"}, api.Address{Street: "1 2", Number: 3, Town: "4 5 6"},
		api.Address{Street: "1 2 3", Number: 4, Town: "5 6"}, api.Address{Street: "1 2 3 4", Number: 5, Town: "6"})
	wantReadings(t, f, []string{"1 2"})
	wantReadings(t, f, []string{"1 2 3 4 5 6 7 8 9"}, api.Address{Street: "1 2 3 4", Number: 5, Town: "6 7 8 9"})
	wantReadings(t, f, []string{"1 2 3 4 5 6 7 8 9 10"})
	f = formatOf(line(street, word("in"), town))
	wantReadings(t, f, []string{"a in In IN b"}, api.Address{Street: "a", Town: "In IN b"}, api.Address{Street: "a in", Town: "IN b"}, api.Address{Street: "a in In", Town: "b"})
	wantReadings(t, formatOf(line(person, street), line(town)), []string{"A B C", "D"}, api.Address{Person: "A", Street: "B C", Town: "D"}, api.Address{Person: "A B", Street: "C", Town: "D"})
	wantReadings(t, formatOf(line(town), line(person, street)), []string{"D", "A B C"}, api.Address{Person: "A", Street: "B C", Town: "D"}, api.Address{Person: "A B", Street: "C", Town: "D"})
	wantReadings(t, formatOf(line(town, person, street)), []string{"a b c d"}, api.Address{Town: "a", Person: "b", Street: "c d"},
		api.Address{Town: "a", Person: "b c", Street: "d"}, api.Address{Town: "a b", Person: "c", Street: "d"})
	wantReadings(t, formatOf(line(street), line(number), line(code("A"), word("x")), line(town)), []string{"a b", "3", "q X", "z"},
		api.Address{Street: "a b", Number: 3, Code: "Q", Town: "z"})
	// The same words can be taken by several kinds of parts.
	wantReadings(t, formatOf(line(number, code("99"), street, word("10"), town)), []string{"10 10 10 10 10"},
		api.Address{Number: 10, Code: "10", Street: "10", Town: "10"})
	wantReadings(t, formatOf(line(number, code("99"), street, word("10"), town)), []string{"10 10 10 10 10 10"},
		api.Address{Number: 10, Code: "10", Street: "10", Town: "10 10"}, api.Address{Number: 10, Code: "10", Street: "10 10", Town: "10"})
}

// TestP4_1OneLine checks all lines of at most six of some words with all formats of at most three parts in one line.
func TestP4_1OneLine(t *testing.T) {
	parts := []api.Part{word("a"), number, code("9"), street, town, person}
	words := []string{"A", "1", "b"}
	var lines [][]string
	level := [][]string{nil}
	for range 6 {
		var next [][]string
		for _, l := range level {
			for _, w := range words {
				next = append(next, append(slices.Clip(l), w))
			}
		}
		lines = append(lines, level...)
		level = next
	}
	for _, p := range parts {
		for _, q := range parts {
			for _, s := range parts {
				f := formatOf(line(p, q, s))
				if !isValid(f) {
					continue
				}
				for _, l := range lines {
					wantSame(t, f, []string{strings.Join(l, " ")})
				}
			}
		}
	}
}

func TestP4_1Limit(t *testing.T) {
	one := formatOf(line(street))
	for _, n := range []int{40, 41, 42, 80, 1000, 100000} {
		errno := api.OK
		if n > 40 {
			errno = api.ErrLimit
		}
		for _, lines := range [][]string{
			{strings.Repeat("a ", n)}, {strings.Repeat("\té", n)}, slices.Repeat([]string{"a"}, n), {"", strings.Repeat("a ", n-1), " ", "b"}, {strings.Repeat("x ", n/2), strings.Repeat("x ", n-n/2)}, {"", "", strings.Repeat("+ ", n)},
		} {
			wantParseError(t, one, lines, errno)
			wantParseError(t, usual(), lines, errno)
			wantParseError(t, formatOf(line(api.Part{})), lines, api.ErrArg)
			wantParseError(t, api.Format{}, lines, api.ErrArg)
		}
	}
	wantParseError(t, one, slices.Repeat([]string{" \t"}, 1000), api.OK)
	wantParseError(t, one, []string{strings.Repeat("a", 1<<20)}, api.OK)
	// Forty words can have a reading, and a format can have more.
	full := formatOf(slices.Repeat([][]api.Part{slices.Repeat([]api.Part{word("a")}, 8)}, 5)...)
	lines := slices.Repeat([]string{"a a A a a A a a"}, 5)
	wantReadings(t, full, lines, api.Address{})
	full.Lines = append(full.Lines, line(word("a")))
	wantParseError(t, full, append(lines, "a"), api.ErrLimit)
	wantPrinted(t, full, api.Address{}, append(slices.Repeat([]string{"a a a a a a a a"}, 5), "a")...)
}

func TestP4_1NotWellFormed(t *testing.T) {
	a := api.Address{Person: "Ada", Street: "Lane", Number: 1, Code: "1000", Town: "Town"}
	for i, change := range []func(f *api.Format){
		func(f *api.Format) { f.Name = "" }, func(f *api.Format) { f.Name = "F" }, func(f *api.Format) { f.Name = "1" }, func(f *api.Format) { f.Name = strings.Repeat("f", 17) },
		func(f *api.Format) { f.Lines = nil }, func(f *api.Format) { f.Lines = append(f.Lines, nil) }, func(f *api.Format) { f.Lines[0] = nil },
		func(f *api.Format) { f.Lines[1] = line(street, number, number) }, func(f *api.Format) { f.Lines[1] = line(street, number, api.Part{Kind: 7}) },
		func(f *api.Format) { f.Lines[1][0].Text = "Lane" }, func(f *api.Format) { f.Lines[2][0].Text = "" }, func(f *api.Format) { f.Lines[2][0].Text = "999a" },
		func(f *api.Format) { f.Lines = append(f.Lines, slices.Repeat([][]api.Part{{word("x")}}, 6)...) },
		func(f *api.Format) { f.Lines[0] = append(f.Lines[0], slices.Repeat([]api.Part{word("x")}, 8)...) },
	} {
		f := usual()
		wantPrinted(t, f, a, "Ada", "Lane 1", "1000 Town")
		change(&f)
		if isValid(f) {
			t.Errorf("%d is well-formed", i)
		}
		wantParseError(t, f, []string{"Ada", "Lane 1", "1000 Town"}, api.ErrArg)
		wantParseError(t, f, []string{strings.Repeat("a ", 41)}, api.ErrArg)
		wantParseError(t, f, nil, api.ErrArg)
		wantUnprinted(t, f, a)
		wantUnprinted(t, f, api.Address{})
	}
}

func TestP4_1Print(t *testing.T) {
	wantPrinted(t, formatOf(line(word("Lane"), number), line(word("x"), word("Y"))), api.Address{Number: 12}, "Lane 12", "x Y")
	wantPrinted(t, formatOf(line(word("-"))), api.Address{}, "-")
	wantPrinted(t, formatOf(line(town, code("A9"), person), line(street)), api.Address{Town: "a B c D", Code: "X0", Person: "p.", Street: "1 2"}, "a B c D X0 p.", "1 2")
	for n := -3; n <= 10003; n++ {
		if n >= 1 && n <= 9999 {
			wantPrinted(t, formatOf(line(number)), api.Address{Number: n}, strconv.Itoa(n))
		} else {
			wantUnprinted(t, formatOf(line(number)), api.Address{Number: n})
		}
		if n != 0 {
			wantUnprinted(t, formatOf(line(word("x"))), api.Address{Number: n})
		}
	}
	for _, n := range []int{-1 << 63, 1<<63 - 1, -9999, -1, 1 << 32, 1<<32 + 1} {
		wantUnprinted(t, formatOf(line(number)), api.Address{Number: n})
		wantUnprinted(t, formatOf(line(street)), api.Address{Street: "a", Number: n})
	}
	for _, c := range []string{"", "1", "A", "1a", "a1", "A1", "1A ", " 1A", "1 A", "1AA", "11A", "é1", "1é", "1-", "1A\t", "1\n"} {
		wantUnprinted(t, formatOf(line(code("9A"))), api.Address{Code: c})
	}
	for _, c := range []string{"1A", "0Z", "9B"} {
		wantPrinted(t, formatOf(line(code("9A"))), api.Address{Code: c}, c)
	}
}

func TestP4_1PrintNames(t *testing.T) {
	long := strings.Repeat("x", 20)
	good := []string{"a", "a b", "a b c", "a b c d", long, long + " " + long + " " + long + " " + long, "St. O'Hara -", "012 0", "'"}
	bad := []string{"", " ", "a b c d e", "a  b", " a", "a ", "a\tb", "\ta", "a\t", "a\nb", "\n", long + "x", "a " + long + "x", "a b é", "a,b", "\xff", strings.Repeat("a ", 1000)}
	for _, text := range good {
		wantPrinted(t, formatOf(line(street)), api.Address{Street: text}, text)
		wantPrinted(t, formatOf(line(town)), api.Address{Town: text}, text)
		wantPrinted(t, formatOf(line(person)), api.Address{Person: text}, text)
		wantPrinted(t, formatOf(line(person, word("x"), town), line(street)), api.Address{Person: text, Town: text, Street: text}, text+" x "+text, text)
	}
	for _, text := range bad {
		wantUnprinted(t, formatOf(line(street)), api.Address{Street: text})
		wantUnprinted(t, formatOf(line(town)), api.Address{Town: text})
		wantUnprinted(t, formatOf(line(person)), api.Address{Person: text})
		wantUnprinted(t, usual(), api.Address{Person: text, Street: "a", Number: 1, Code: "1000", Town: "b"})
	}
}

// TestP4_1PrintMissing gives addresses fields that a format does not have, and takes away those that it has.
func TestP4_1PrintMissing(t *testing.T) {
	parts := []api.Part{number, code("9"), street, town, person}
	whole := api.Address{Number: 1, Code: "2", Street: "s", Town: "t", Person: "p"}
	for has := range 1 << 5 {
		f := formatOf(line(word("x")))
		for i, p := range parts {
			if has>>i&1 == 1 {
				f.Lines[0] = append(f.Lines[0], p)
			}
		}
		for given := range 1 << 5 {
			var a api.Address
			for i, set := range []func(){func() { a.Number = whole.Number }, func() { a.Code = whole.Code }, func() { a.Street = whole.Street }, func() { a.Town = whole.Town }, func() { a.Person = whole.Person }} {
				if given>>i&1 == 1 {
					set()
				}
			}
			wantSamePrinted(t, f, a)
			if (given == has) != fits(f, a) {
				t.Errorf("%+v fits %v: %t", a, f.Lines, fits(f, a))
			}
		}
	}
}

func TestP4_1Random(t *testing.T) {
	r := source()
	several := 0
	for range 10000 {
		f := randomFormat(r)
		l := randomLines(r, f)
		wantSame(t, f, l)
		if all, _ := parse(f, l); len(all) > 1 {
			several++
		}
	}
	if several < 250 {
		t.Errorf("only %d times several readings", several)
	}
}

// TestP4_2Printing prints addresses and reads them again, and prints what has been read.
func TestP4_2Printing(t *testing.T) {
	r := source()
	for range 8000 {
		f := randomFormat(r)
		a := randomAddress(r, f)
		lines, errno := format.Print(f, a)
		if errno != api.OK || len(lines) != len(f.Lines) {
			t.Errorf("Print(%v, %+v) = %q, %d", f.Lines, a, lines, errno)
			continue
		}
		wantSamePrinted(t, f, a)
		all, errno := format.Parse(f, lines)
		if countWords(lines) > maxWords {
			wantParseError(t, f, lines, api.ErrLimit)
		} else if errno != api.OK || !slices.Contains(all, a) {
			t.Errorf("Parse(%v, %q) = %+v, %d without %+v", f.Lines, lines, all, errno, a)
		}
		lines = randomLines(r, f)
		all, _ = format.Parse(f, lines)
		for _, a := range all {
			again, errno := format.Print(f, a)
			if errno != api.OK {
				t.Errorf("Print(%v, %+v): %d", f.Lines, a, errno)
			}
			wantSameWords(t, f, a, lines, again)
		}
	}
}

// wantSameWords checks that printed lines of a reading have the words of the lines that were read, but for the case of letters in codes and literal words.
func wantSameWords(t *testing.T, f api.Format, a api.Address, lines, printed []string) {
	t.Helper()
	for i, parts := range f.Lines {
		was, is := wordPattern.FindAllString(lines[i], -1), strings.Split(printed[i], " ")
		if lower(strings.Join(was, " ")) != lower(strings.Join(is, " ")) {
			t.Errorf("%q was printed as %q", lines[i], printed[i])
			continue
		}
		at := 0
		for _, p := range parts {
			n := 1
			switch p.Kind {
			case api.PartStreet:
				n = len(strings.Split(a.Street, " "))
			case api.PartTown:
				n = len(strings.Split(a.Town, " "))
			case api.PartPerson:
				n = len(strings.Split(a.Person, " "))
			}
			if p.Kind != api.PartWord && p.Kind != api.PartCode && !slices.Equal(was[at:at+n], is[at:at+n]) {
				t.Errorf("%q was printed as %q", was[at:at+n], is[at:at+n])
			}
			at += n
		}
	}
}

// TestP4_3Order checks the order of readings by the numbers of words that their parts take.
func TestP4_3Order(t *testing.T) {
	r := source()
	for range 6000 {
		f := randomFormat(r)
		lines := randomLines(r, f)
		all, _ := format.Parse(f, lines)
		var last []int
		for i, a := range all {
			if slices.Contains(all[:i], a) {
				t.Errorf("Parse(%v, %q): %+v comes twice", f.Lines, lines, a)
			}
			if !fits(f, a) {
				t.Errorf("Parse(%v, %q): %+v does not fit", f.Lines, lines, a)
			}
			var n []int
			for _, l := range f.Lines {
				for _, p := range l {
					n = append(n, len(strings.Fields([]string{"x", "1", "1", a.Street, a.Town, a.Person}[p.Kind-1])))
				}
			}
			if i > 0 && slices.Compare(last, n) >= 0 {
				t.Errorf("Parse(%v, %q): %v before %v", f.Lines, lines, last, n)
			}
			last = n
		}
		if len(all) > maxParses {
			t.Errorf("Parse(%v, %q): %d readings", f.Lines, lines, len(all))
		}
	}
}

// TestP4_3SeveralLines checks the order where several lines can be divided in several ways each: three kinds suffice for one such line with three of them only, or for one with two and one that has one.
func TestP4_3SeveralLines(t *testing.T) {
	most := 0
	for _, perm := range [][]api.Part{{street, town, person}, {street, person, town}, {town, street, person}, {town, person, street}, {person, street, town}, {person, town, street}} {
		for n := 1; n <= 14; n++ {
			words := strings.TrimSpace(strings.Repeat("w ", n))
			for _, f := range []api.Format{formatOf(perm), formatOf(perm[:2], perm[2:]), formatOf(perm[:1], perm[1:])} {
				l := slices.Repeat([]string{words}, len(f.Lines))
				wantSame(t, f, l)
				all, _ := format.Parse(f, l)
				most = max(most, len(all))
				wantSame(t, f, append(l[:len(l)-1], "v"))
			}
		}
	}
	if most != 12 {
		t.Errorf("at most %d readings", most)
	}
}

// TestP4_4Blanks puts other blanks around words.
func TestP4_4Blanks(t *testing.T) {
	r := source()
	for range 4000 {
		f := randomFormat(r)
		lines := randomLines(r, f)
		want, errno := format.Parse(f, lines)
		if errno != api.OK {
			wantParseError(t, f, lines, api.ErrLimit)
			continue
		}
		var other []string
		for _, l := range lines {
			words := wordPattern.FindAllString(l, -1)
			other = append(other, blank(r, words))
			if got := format.Words(other[len(other)-1]); !slices.Equal(got, words) {
				t.Errorf("Words(%q) = %q", other[len(other)-1], got)
			}
		}
		wantReadings(t, f, other, want...)
	}
	a := api.Address{Person: "Ada Byron", Street: "Long Lane", Number: 12, Code: "1000", Town: "Old Town"}
	wantReadings(t, usual(), []string{"\t Ada \t\t Byron", "  Long Lane\t12 ", "1000  Old\t \tTown\t"}, a)
	wantReadings(t, usual(), []string{"Ada Byron", "Long Lane 12", "10 00 Old Town"})
	wantReadings(t, usual(), []string{"Ada Byron", "LongLane 12", "1000Old Town"})
}

// TestP4_5OneReading checks formats without a line with two parts that can take several words.
func TestP4_5OneReading(t *testing.T) {
	r := source()
	checked, read := 0, 0
	for checked < 5000 {
		f := randomFormat(r)
		if slices.ContainsFunc(f.Lines, func(l []api.Part) bool {
			n := 0
			for _, p := range l {
				if p.Kind >= api.PartStreet {
					n++
				}
			}
			return n >= 2
		}) {
			continue
		}
		checked++
		lines := randomLines(r, f)
		all, _ := format.Parse(f, lines)
		if len(all) > 1 {
			t.Errorf("Parse(%v, %q): %d readings", f.Lines, lines, len(all))
		}
		read += len(all)
	}
	if read < 2000 {
		t.Errorf("only %d readings", read)
	}
	wantReadings(t, formatOf(line(number, street, code("9"), word("5")), line(town), line(word("5"), person)), []string{"5 5 5 5 5 5 5", "5 5", "5 5 5 5 5"},
		api.Address{Number: 5, Street: "5 5 5 5", Code: "5", Town: "5 5", Person: "5 5 5 5"})
}

// TestP4_6AllReadings divides words among a street and a town.
func TestP4_6AllReadings(t *testing.T) {
	words := strings.Fields("a b c d e f g h i j k l")
	for n := range words {
		var want []api.Address
		for first := 1; first <= 4; first++ {
			if rest := n - first; rest >= 1 && rest <= 4 {
				want = append(want, api.Address{Street: strings.Join(words[:first], " "), Town: strings.Join(words[first:n], " ")})
			}
		}
		l := strings.Join(words[:n], " ")
		wantReadings(t, formatOf(line(street, town)), []string{l}, want...)
		wantReadings(t, formatOf(line(word("x"), street, town)), []string{"X " + l}, want...)
		wantReadings(t, formatOf(line(street, town, word("x"))), []string{l + " x"}, want...)
		for i := range want {
			want[i].Number = 7
		}
		wantReadings(t, formatOf(line(street, town, number)), []string{l + " 7"}, want...)
		wantReadings(t, formatOf(line(number), line(street, town)), []string{"7", l}, want...)
		count := max(0, min(n-1, 9-n))
		if len(want) != count {
			t.Errorf("%d words: %d readings", n, len(want))
		}
	}
}

// TestP4_7Lines adds and takes away lines, and makes words unfit.
func TestP4_7Lines(t *testing.T) {
	a := api.Address{Person: "Ada", Street: "Lane", Number: 12, Code: "1000", Town: "Town"}
	lines := []string{"Ada", "Lane 12", "1000 Town"}
	wantReadings(t, usual(), lines, a)
	wantReadings(t, usual(), nil)
	for i := range lines {
		wantReadings(t, usual(), slices.Delete(slices.Clone(lines), i, i+1))
	}
	for i := range 4 {
		for _, l := range []string{"", " ", "\t", "Ada", "x", "Lane 12", "1000 Town"} {
			wantReadings(t, usual(), slices.Insert(slices.Clone(lines), i, l))
			if i < 3 && l != lines[i] && l != "x" && (i > 0 || l == "" || l == " " || l == "\t") {
				changed := slices.Clone(lines)
				changed[i] = l
				wantReadings(t, usual(), changed)
			}
		}
	}
	wantReadings(t, usual(), slices.Concat(lines, lines))
	wantReadings(t, usual(), []string{strings.Join(lines, "\n")})
	wantReadings(t, usual(), []string{strings.Join(lines, " "), "", ""})
	r := source()
	for range 4000 {
		f := randomFormat(r)
		lines := randomLines(r, f)
		if countWords(lines) >= maxWords {
			continue
		}
		wantReadings(t, f, slices.Insert(slices.Clone(lines), r.IntN(len(lines)+1), pick(r, []string{"", "x", " \t"})))
		wantReadings(t, f, lines[1:])
		i := r.IntN(len(lines))
		words := append(wordPattern.FindAllString(lines[i], -1), pick(r, unfitWords))
		if n := len(words); n > 1 && r.IntN(2) == 0 {
			words[r.IntN(n-1)] = words[n-1]
			words = words[:n-1]
		}
		lines[i] = strings.Join(words, " ")
		wantReadings(t, f, lines)
	}
}

// unusualFormat returns a format that need not be well-formed.
func unusualFormat(r *rand.Rand) api.Format {
	f := randomFormat(r)
	l := r.IntN(len(f.Lines))
	p := r.IntN(len(f.Lines[l]))
	switch r.IntN(8) {
	case 0:
		f.Name = pick(r, []string{"", "F", "é", "f\x00", "_", "f234567890123456", "f2345678901234567"})
	case 1:
		f.Lines[l] = nil
	case 2:
		f.Lines = append(f.Lines, f.Lines...)
	case 3:
		f.Lines[l][p].Kind = r.IntN(12) - 3
	case 4:
		f.Lines[l][p].Text = pick(r, slices.Concat(fitWords, unfitWords, patterns, []string{""}))
	case 5:
		f.Lines[l] = append(f.Lines[l], f.Lines[r.IntN(len(f.Lines))]...)
	case 6:
		f.Lines = f.Lines[:r.IntN(len(f.Lines)+1)]
	}
	return f
}

// unusualAddress returns an address that need not fit a format.
func unusualAddress(r *rand.Rand, f api.Format) api.Address {
	var a api.Address
	if isValid(f) {
		a = randomAddress(r, f)
	}
	odd := slices.Concat(fitWords, unfitWords, []string{"", " ", "a  b", "a b c d e", " a", "a\t", "a\tb"})
	switch r.IntN(8) {
	case 0:
		a.Number = pick(r, []int{0, -1, 1, 9999, 10000, -1 << 63, 1<<63 - 1})
	case 1:
		a.Code = pick(r, odd)
	case 2:
		a.Street = pick(r, odd)
	case 3:
		a.Town = pick(r, odd)
	case 4:
		a.Person = pick(r, odd)
	case 5:
		a.Code = lower(a.Code)
	}
	return a
}

// deepCopy returns a format that shares no memory with another one.
func deepCopy(f api.Format) api.Format {
	c := api.Format{Name: strings.Clone(f.Name)}
	for _, l := range f.Lines {
		var parts []api.Part
		for _, p := range l {
			parts = append(parts, api.Part{Kind: p.Kind, Text: strings.Clone(p.Text)})
		}
		c.Lines = append(c.Lines, parts)
	}
	return c
}

func sameFormat(a, b api.Format) bool {
	return a.Name == b.Name && slices.EqualFunc(a.Lines, b.Lines, slices.Equal[[]api.Part])
}

func TestP1EveryArgument(t *testing.T) {
	r := source()
	words := slices.Concat(fitWords, unfitWords)
	for range 12000 {
		f := unusualFormat(r)
		var lines []string
		for range r.IntN(10) {
			var l []string
			for range r.IntN(12) {
				l = append(l, pick(r, words))
			}
			lines = append(lines, blank(r, l))
		}
		kept, keptLines := deepCopy(f), slices.Clone(lines)
		wantSame(t, f, lines)
		if isValid(f) {
			lines = randomLines(r, f)
			keptLines = slices.Clone(lines)
			wantSame(t, f, lines)
		}
		a := unusualAddress(r, f)
		wantSamePrinted(t, f, a)
		if !sameFormat(f, kept) || !slices.Equal(lines, keptLines) {
			t.Errorf("%v or %q was changed", kept, keptLines)
		}
	}
	for _, l := range []string{strings.Repeat(" ", 1<<20), strings.Repeat("x", 1<<20), strings.Repeat("\xff\t", 1<<18), strings.Repeat("a b ", 1<<17)} {
		wantSame(t, usual(), []string{l, l, l})
		wantSamePrinted(t, usual(), api.Address{Person: l, Street: l, Number: 1, Code: l, Town: l})
		wantSamePrinted(t, usual(), api.Address{Person: "a", Street: "b", Number: 1, Code: "1000", Town: l})
		if got := format.Words(l); !slices.Equal(got, wordPattern.FindAllString(l, -1)) {
			t.Errorf("Words: %d words", len(got))
		}
		f := usual()
		f.Lines[2][0].Text = l
		wantSame(t, f, []string{"a"})
		f = usual()
		f.Lines[0][0].Text = l
		wantSame(t, f, []string{"a"})
		wantSame(t, formatOf(line(word(l))), []string{l})
		wantSame(t, api.Format{Name: l, Lines: usual().Lines}, []string{l})
	}
}

// shares reports whether a text lies within the memory of another one.
func shares(part, whole string) bool {
	if part == "" || whole == "" {
		return false
	}
	p, w := uintptr(unsafe.Pointer(unsafe.StringData(part))), uintptr(unsafe.Pointer(unsafe.StringData(whole)))
	return p >= w && p < w+uintptr(len(whole))
}

// TestP3Independence checks that calls do not depend on earlier ones, and that results share no memory.
func TestP3Independence(t *testing.T) {
	r := source()
	for range 3000 {
		f := randomFormat(r)
		lines := randomLines(r, f)
		first, errno := format.Parse(f, lines)
		kept := slices.Clone(first)
		for i := range first {
			first[i] = api.Address{Street: "changed"}
		}
		again, e := format.Parse(deepCopy(f), slices.Clone(lines))
		if e != errno || !slices.Equal(again, kept) {
			t.Errorf("Parse(%v, %q) = %+v, %d, and then %+v, %d", f.Lines, lines, kept, errno, again, e)
		}
		for _, l := range lines {
			for _, a := range again {
				if shares(a.Street, l) || shares(a.Town, l) || shares(a.Person, l) || shares(a.Code, l) {
					t.Errorf("Parse(%v, %q): %+v shares memory with the lines", f.Lines, lines, a)
				}
			}
			words := format.Words(l)
			for _, w := range words {
				if shares(w, l) {
					t.Errorf("Words(%q): %q shares memory with the line", l, w)
				}
			}
			clear(words)
			if got := format.Words(l); !slices.Equal(got, wordPattern.FindAllString(l, -1)) {
				t.Errorf("Words(%q) = %q after a change of an earlier result", l, got)
			}
		}
		if format.Valid(f) != format.Valid(deepCopy(f)) {
			t.Errorf("Valid(%v) is true and false", f)
		}
	}
	for range 3000 {
		f := randomFormat(r)
		a := randomAddress(r, f)
		first, _ := format.Print(f, a)
		kept := slices.Clone(first)
		for _, l := range first {
			if shares(l, a.Street) || shares(l, a.Town) || shares(l, a.Person) || shares(l, a.Code) {
				t.Errorf("Print(%v, %+v): %q shares memory with the address", f.Lines, a, l)
			}
			for _, parts := range f.Lines {
				for _, p := range parts {
					if shares(l, p.Text) {
						t.Errorf("Print(%v, %+v): %q shares memory with the format", f.Lines, a, l)
					}
				}
			}
		}
		clear(first)
		if again, _ := format.Print(deepCopy(f), a); !slices.Equal(again, kept) {
			t.Errorf("Print(%v, %+v) = %q, and then %q", f.Lines, a, kept, again)
		}
	}
}
