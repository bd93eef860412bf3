package match_test

import (
	"fmt"
	"math"
	"math/rand/v2"
	"reflect"
	"regexp"
	"slices"
	"strings"
	"testing"
	"unsafe"

	"postilion/api"
	"postilion/match"
)

const (
	maxText = 200 // bytes of a text that is compared
	maxMost = 6   // the greatest limit of costs
)

// endings are the words of the table, by what they become.
var endings = map[string][]string{
	"st":  {"street", "str.", "str", "st."},
	"rd":  {"road", "rd."},
	"ave": {"avenue", "ave."},
	"ln":  {"lane", "ln."},
	"sq":  {"square", "sq."},
}

// shown returns how a failing test shows a text.
func shown(text string) string {
	if len(text) > 60 {
		return fmt.Sprintf("%q .. (%d bytes)", text[:50], len(text))
	}
	return fmt.Sprintf("%q", text)
}

func wantDistance(t *testing.T, a, b string, want int) {
	t.Helper()
	if got := match.Distance(a, b); got != want {
		t.Errorf("Distance(%s, %s) = %d, not %d", shown(a), shown(b), got, want)
	}
}

func wantFolded(t *testing.T, name, want string) {
	t.Helper()
	if got := match.Fold(name); got != want {
		t.Errorf("Fold(%s) = %s, not %s", shown(name), shown(got), shown(want))
	}
}

func wantCandidates(t *testing.T, l []api.Street, a api.Address, most int, want ...api.Candidate) {
	t.Helper()
	if got := match.Candidates(l, a, most); !slices.Equal(got, want) {
		t.Errorf("Candidates(%+v, %+v, %d) = %v, not %v", l, a, most, got, want)
	}
}

func streets(l ...api.Street) []api.Street { return l }

// street returns an open street with the code 1000, the town Town and the numbers 1 to 9.
func street(name string, aliases ...string) api.Street {
	return api.Street{Code: "1000", Town: "Town", Name: name, Aliases: aliases, Low: 1, High: 9, Open: true}
}

// withCode, withTown, withNumbers and closed return a street that differs.
func withCode(s api.Street, code string) api.Street { s.Code = code; return s }
func withTown(s api.Street, town string) api.Street { s.Town = town; return s }
func closed(s api.Street) api.Street                { s.Open = false; return s }
func withNumbers(s api.Street, low, high, shift int) api.Street {
	s.Low, s.High, s.Shift = low, high, shift
	return s
}

// address returns an address with the code 1000, the town Town and the number 5.
func address(street string) api.Address {
	return api.Address{Code: "1000", Town: "Town", Street: street, Number: 5}
}

func candidate(street, number, cost int) api.Candidate {
	return api.Candidate{Point: api.Point{Street: street, Number: number}, Cost: cost}
}

// costOf returns the cost of the only street of a list for an address with the number 5, or -1 if it is not a candidate.
func costOf(t *testing.T, s api.Street, a api.Address) int {
	t.Helper()
	l := match.Candidates(streets(s), a, maxMost)
	if len(l) == 0 {
		return -1
	}
	if len(l) > 1 || l[0] != candidate(0, a.Number-s.Shift, l[0].Cost) {
		t.Errorf("Candidates([%+v], %+v, %d) = %v", s, a, maxMost, l)
	}
	return l[0].Cost
}

func wantCost(t *testing.T, s api.Street, a api.Address, want int) {
	t.Helper()
	if got := costOf(t, s, a); got != want {
		t.Errorf("the cost of %+v for %+v is %d, not %d", s, a, got, want)
	}
}

// What follows does what the package does, by other ways: along diagonals, with patterns, and cost by cost.

// distance returns the distance of two texts: the number of steps after which some way, with all equal bytes that follow a step, has reached the ends of both.
func distance(a, b string) int {
	middle := len(a) + len(b) + 1
	far := make([]int, 2*middle+1) // bytes of a that are passed, by how many more of b are
	for i := range far {
		far[i] = math.MinInt / 2
	}
	far[middle] = -1 // so that 0 are passed after no step
	for steps := 0; ; steps++ {
		before := slices.Clone(far)
		for more := -steps; more <= steps; more++ {
			at := middle + more
			i := min(max(before[at]+1, before[at-1], before[at+1]+1), len(a), len(b)-more)
			for i >= 0 && i+more >= 0 && i < len(a) && i+more < len(b) && a[i] == b[i+more] {
				i++
			}
			if far[at] = i; i == len(a) && i+more == len(b) {
				return steps
			}
		}
	}
}

var (
	smallLetters   = strings.NewReplacer(strings.Split("A a B b C c D d E e F f G g H h I i J j K k L l M m N n O o P p Q q R r S s T t U u V v W w X x Y y Z z", " ")...)
	blanks         = regexp.MustCompile(`[ ]+`)
	blanksAtEnds   = regexp.MustCompile(`^[ ]+|[ ]+$`)
	streetEnding   = regexp.MustCompile(`^((?s:.)* )(?:street|str\.|str|st\.)$`)
	otherEndings   = regexp.MustCompile(`^((?s:.)* )(?:(r)oa(d)|(r)(d)\.|(av)(e)(?:nue|\.)|(l)a(n)e|(l)(n)\.|(s)(q)(?:uare|\.))$`)
	endingReplaced = "${1}${2}${3}${4}${5}${6}${7}${8}${9}${10}${11}${12}${13}"
)

func folded(name string) string {
	name = blanksAtEnds.ReplaceAllString(blanks.ReplaceAllString(smallLetters.Replace(name), " "), "")
	return otherEndings.ReplaceAllString(streetEnding.ReplaceAllString(name, "${1}st"), endingReplaced)
}

// cost returns the cost of a street for an address, or -1 if it does not exist.
func cost(s api.Street, a api.Address) int {
	names := append(slices.Clone(s.Aliases), s.Name)
	longest := len(a.Street)
	nearest := math.MaxInt
	for _, name := range names {
		longest = max(longest, len(name))
	}
	if a.Code != "" {
		longest = max(longest, len(a.Code), len(s.Code))
	}
	if a.Town != "" {
		longest = max(longest, len(a.Town), len(s.Town))
	}
	if longest > maxText {
		return -1
	}
	for _, name := range names {
		nearest = min(nearest, distance(folded(name), folded(a.Street)))
	}
	if a.Code != "" {
		nearest += distance(s.Code, a.Code)
	}
	if a.Town != "" {
		nearest += distance(folded(s.Town), folded(a.Town))
	}
	return nearest
}

func candidates(l []api.Street, a api.Address, most int) []api.Candidate {
	if most > maxMost {
		return nil
	}
	var found []api.Candidate
	for c := 0; c <= most; c++ {
		for i, s := range l {
			if s.Open && a.Number >= s.Low && a.Number <= s.High && cost(s, a) == c {
				found = append(found, candidate(i, a.Number-s.Shift, c))
			}
		}
	}
	return found
}

func source(n uint64) *rand.Rand { return rand.New(rand.NewPCG(6, n)) }

func pick[T any](r *rand.Rand, l ...T) T { return l[r.IntN(len(l))] }

// randomText returns a text of a length with the bytes of another one.
func randomText(r *rand.Rand, length int, of string) string {
	b := make([]byte, length)
	for i := range b {
		b[i] = of[r.IntN(len(of))]
	}
	return string(b)
}

func everyByte() string {
	b := make([]byte, 256)
	for i := range b {
		b[i] = byte(i)
	}
	return string(b)
}

// aStep returns a text that is one step away.
func aStep(r *rand.Rand, text, of string) string {
	at := r.IntN(len(text) + 1)
	b := randomText(r, 1, of)
	switch {
	case at == len(text) || r.IntN(3) == 0:
		return text[:at] + b + text[at:]
	case r.IntN(2) == 0:
		return text[:at] + text[at+1:]
	}
	return text[:at] + b + text[at+1:]
}

// spoilt returns a text that is up to some steps away, mostly none.
func spoilt(r *rand.Rand, text string, most int) string {
	for range max(0, r.IntN(2*most+1)-most) {
		text = aStep(r, text, "aest. -9Z")
	}
	return text
}

func randomCase(r *rand.Rand, text string) string {
	b := []byte(text)
	for i, c := range b {
		if isLetter := c >= 'a' && c <= 'z' || c >= 'A' && c <= 'Z'; isLetter && r.IntN(2) == 0 {
			b[i] ^= 0x20
		}
	}
	return string(b)
}

// moreBlanks returns a name with more blanks at both ends and between the words.
func moreBlanks(r *rand.Rand, name string) string {
	blank := func(least int) string { return strings.Repeat(" ", least+r.IntN(3)) }
	words := strings.Split(name, " ")
	for i := range words[1:] {
		words[i+1] = blank(1) + words[i+1]
	}
	return blank(0) + strings.Join(words, "") + blank(0)
}

func allEndings() []string {
	var l []string
	for short, forms := range endings {
		l = append(append(l, short), forms...)
	}
	slices.Sort(l)
	return l
}

func randomName(r *rand.Rand) string {
	name := pick(r, "Main", "Main", "Mill", "Mall", "Old Main", "O'Hara", "st", "")
	if r.IntN(3) > 0 {
		name = strings.TrimPrefix(name+" "+pick(r, "Street", "st", "St.", pick(r, allEndings()...)), " ")
	}
	return pick(r, name, moreBlanks(r, randomCase(r, name)), spoilt(r, name, 3))
}

func randomStreet(r *rand.Rand) api.Street {
	s := street(randomName(r))
	for range max(0, r.IntN(5)-2) {
		s.Aliases = append(s.Aliases, randomName(r))
	}
	s.Code, s.Town = pick(r, "1000", "1000", "1000", "1001", "2A", ""), pick(r, "Town", "town", "Town", "Towns", "Twn", "Square", "")
	s.Low = pick(r, 1, 1, 3, 5, 6, -2)
	s.High = s.Low + pick(r, 0, 4, 4, 30, 30)
	s.Shift = pick(r, 0, 0, 1, 100, -7)
	s.Open = r.IntN(8) > 0
	return s
}

func randomStreets(r *rand.Rand, most int) []api.Street {
	l := make([]api.Street, r.IntN(most+1))
	for i := range l {
		l[i] = randomStreet(r)
	}
	return l
}

// randomAddress returns an address that often is like that of one of the streets.
func randomAddress(r *rand.Rand, l []api.Street) api.Address {
	a := api.Address{Person: pick(r, "", "Ada"), Street: randomName(r), Number: pick(r, 5, 5, 5, 6, 1, 9, 10, 0, -1), Code: pick(r, "", "1000", "1000", "1010", "2A"), Town: pick(r, "", "Town", "TOWN ", "Twon", "  ")}
	if len(l) > 0 && r.IntN(3) > 0 {
		s := pick(r, l...)
		a.Number = pick(r, s.Low, s.High, a.Number)
		a.Street = spoilt(r, moreBlanks(r, randomCase(r, pick(r, append(s.Aliases, s.Name)...))), 2)
		a.Code, a.Town = pick(r, a.Code, s.Code), pick(r, a.Town, s.Town)
	}
	return a
}

// withLong returns streets and an address in which a text that may be compared, or may not, has 200 or 201 bytes.
func withLong(r *rand.Rand, l []api.Street, a api.Address) ([]api.Street, api.Address) {
	l = slices.Clone(l)
	long := func(text string) string { return text + strings.Repeat(" ", max(0, 200+r.IntN(2)-len(text))) }
	s := &api.Street{}
	if len(l) > 0 {
		s = &l[r.IntN(len(l))]
	}
	s.Aliases = slices.Clone(s.Aliases)
	text := pick(r, &a.Person, &a.Street, &a.Code, &a.Town, &s.Name, &s.Code, &s.Town)
	if len(s.Aliases) > 0 && r.IntN(3) == 0 {
		text = &s.Aliases[r.IntN(len(s.Aliases))]
	}
	*text = long(*text)
	return l, a
}

func TestP6_1Examples(t *testing.T) {
	wantDistance(t, "kitten", "sitting", 3)
	wantFolded(t, " Main   Street ", "main st")
	wantFolded(t, "Str.", "str.")
	main := street("Main St.")
	main.Shift = 2
	mian := api.Address{Street: "Mian Str.", Number: 5}
	wantCandidates(t, streets(main), mian, 2, candidate(0, 3, 2))
	wantCandidates(t, streets(main), mian, 1)
	mian.Code, mian.Town = "1000", "Town"
	wantCandidates(t, streets(main), mian, 2, candidate(0, 3, 2))
}

func TestP6_1Distances(t *testing.T) {
	for _, x := range []struct {
		a, b string
		want int
	}{
		{"", "", 0}, {"", "a", 1}, {"", "abc", 3}, {"", " ", 1}, {"a", "a", 0}, {"a", "b", 1}, {"ab", "ba", 2}, {"abc", "abc", 0}, {"abc", "ac", 1}, {"abc", "bc", 1}, {"abc", "ab", 1}, {"abc", "xabc", 1}, {"abc", "abxc", 1}, {"abc", "abcx", 1},
		{"abc", "xbc", 1}, {"abc", "axc", 1}, {"abc", "abx", 1}, {"abcdef", "azced", 3}, {"flaw", "lawn", 2}, {"sunday", "saturday", 3}, {"intention", "execution", 5}, {"aaaa", "aa", 2}, {"abcabc", "cabcab", 2}, {"abcdef", "fedcba", 6}, {"aab", "baa", 2},
		{"A", "a", 1}, {"Main St", "main st", 2}, {" a", "a", 1}, {"a  b", "a b", 1}, {"main street", "main st", 4}, {"main st.", "main st", 1},
		{"\x00", "", 1}, {"\x00", "\x01", 1}, {"a\x00b", "ab", 1}, {"\xff", "\xff", 0}, {"\xff", "\xfe", 1}, {"\xff", "\ufffd", 3}, {"é", "e", 2}, {"é", "è", 1}, {"é", "", 2}, {"ä", "ö", 1}, {"ß", "ss", 2}, {"Köln", "Koln", 2}, {"\u212a", "K", 3}, {"日", "月", 2}, {"日本", "日", 3}, {"😀", "", 4},
	} {
		wantDistance(t, x.a, x.b, x.want)
		wantDistance(t, x.b, x.a, x.want)
	}
}

// TestP6_1DistancesOfShortTexts finds the least number of steps by making all of them, on the texts of up to five bytes a and b, and c within the first two.
func TestP6_1DistancesOfShortTexts(t *testing.T) {
	const most = 5
	var texts []string
	var collect func(text string)
	collect = func(text string) {
		texts = append(texts, text)
		for _, b := range "abc" {
			if len(text) < most && (b != 'c' || len(text) < 2) {
				collect(text + string(b))
			}
		}
	}
	collect("")
	known := map[string]bool{}
	for _, text := range texts {
		known[text] = true
	}
	near := map[string][]string{}
	for _, text := range texts {
		for at := range len(text) + 1 {
			for _, b := range []string{"a", "b", "c", ""} {
				for _, x := range []string{text[:at] + b + text[at:], text[:at] + b + text[min(at+1, len(text)):]} {
					if known[x] {
						near[text] = append(near[text], x)
					}
				}
			}
		}
	}
	for _, a := range texts {
		steps := map[string]int{a: 0}
		for reached := []string{a}; len(reached) > 0; reached = reached[1:] {
			for _, x := range near[reached[0]] {
				if _, isThere := steps[x]; !isThere {
					steps[x] = steps[reached[0]] + 1
					reached = append(reached, x)
				}
			}
		}
		for _, b := range texts {
			if !strings.Contains(a+b, "c") || len(a) < most && len(b) < most { // else a way may lead through a text that is not among these
				wantDistance(t, a, b, steps[b])
			}
		}
	}
}

func TestP6_1LongTexts(t *testing.T) {
	lengths := []int{0, 1, 2, 100, 198, 199, 200, 201, 202, 255, 256, 257, 400, 401, 1000, 65536, 1000000}
	for _, a := range lengths {
		for _, b := range lengths {
			x, y := strings.Repeat("x", a), strings.Repeat("x", b)
			if a > 200 || b > 200 {
				wantDistance(t, x, y, -1)
				wantDistance(t, strings.Repeat(" ", a), y, -1)
				continue
			}
			wantDistance(t, x, y, max(a, b)-min(a, b))
			wantDistance(t, x, strings.Repeat("y", b), max(a, b))
			if a > 0 {
				wantDistance(t, x[1:]+"y", y, max(b-a+1, a-b))
				wantDistance(t, "y"+x[1:], y, max(b-a+1, a-b))
			}
		}
	}
	for _, c := range []string{"é", "日", "\xff"} { // it is bytes that count
		wantDistance(t, strings.Repeat(c, 200/len(c)), "", 200/len(c)*len(c))
		wantDistance(t, strings.Repeat(c, 201), "", -1)
		wantDistance(t, "", strings.Repeat(c, 200/len(c)+1), -1)
	}
}

func TestP6_1DistancesRandom(t *testing.T) {
	random := source(1)
	for range 3000 {
		of := pick(random, "ab", "ab", "abc", "Main Street", "\xc3\xa4\xb6", everyByte())
		a := randomText(random, pick(random, random.IntN(12), random.IntN(60), random.IntN(201)), of)
		b := randomText(random, pick(random, random.IntN(12), random.IntN(60), random.IntN(201)), of)
		if random.IntN(2) == 0 {
			b = a
			for range random.IntN(10) {
				b = aStep(random, b, of)
			}
		}
		if len(b) <= 200 {
			wantDistance(t, a, b, distance(a, b))
		}
	}
}

func TestP6_2Distance(t *testing.T) {
	random := source(2)
	equal := 0
	for range 4000 {
		of := pick(random, "ab", "abc", everyByte())
		most := pick(random, 2, 3, 8, 60, 200)
		a, b, c := randomText(random, random.IntN(most+1), of), randomText(random, random.IntN(most+1), of), randomText(random, random.IntN(most+1), of)
		if random.IntN(3) == 0 && len(a) < 200 {
			b = aStep(random, a, of)
		}
		ab, bc, ac := match.Distance(a, b), match.Distance(b, c), match.Distance(a, c)
		if (ab == 0) != (a == b) || ab < 0 {
			t.Errorf("Distance(%q, %q) = %d", a, b, ab)
		}
		if ac > ab+bc {
			t.Errorf("Distance(%q, %q) = %d, but %d and %d by %q", a, c, ac, ab, bc, b)
		}
		wantDistance(t, b, a, ab)
		wantDistance(t, a, strings.Clone(a), 0)
		if a == b {
			equal++
		}
	}
	if equal < 50 {
		t.Errorf("only %d pairs are equal", equal)
	}
}

func TestP6_3Steps(t *testing.T) {
	random := source(3)
	for range 3000 {
		of := pick(random, "ab", "abc", everyByte())
		most := pick(random, 2, 5, 20, 198)
		a, b := randomText(random, random.IntN(most+1), of), randomText(random, random.IntN(most+1), of)
		d := match.Distance(a, b)
		if d < max(len(a), len(b))-min(len(a), len(b)) || d > max(len(a), len(b)) {
			t.Errorf("Distance(%q, %q) = %d", a, b, d)
		}
		after := aStep(random, a, of)
		if e := match.Distance(after, b); e < d-1 || e > d+1 {
			t.Errorf("Distance(%q, %q) = %d, but Distance(%q, %q) = %d", a, b, d, after, b, e)
		}
		if match.Distance(a, after) > 1 {
			t.Errorf("Distance(%q, %q) = %d", a, after, match.Distance(a, after))
		}
		room := 200 - max(len(a), len(b))
		beginning := randomText(random, random.IntN(room+1), of)
		ending := randomText(random, random.IntN(room-len(beginning)+1), of)
		wantDistance(t, beginning+a, beginning+b, d)
		wantDistance(t, a+ending, b+ending, d)
		wantDistance(t, beginning+a+ending, beginning+b+ending, d)
	}
}

func TestP6_1Folding(t *testing.T) {
	for name, want := range map[string]string{
		"": "", " ": "", "     ": "", "a": "a", "A": "a", " A ": "a", "  A": "a", "A   ": "a", "A B": "a b", "  A    B  ": "a b", "a b c d e": "a b c d e", "ABCDEFGHIJKLMNOPQRSTUVWXYZ": "abcdefghijklmnopqrstuvwxyz", "@[`{~": "@[`{~",
		"Main Street": "main st", "main  STR.": "main st", "Main str": "main st", "Main St.": "main st", "Main St": "main st", "MAIN ST ": "main st", "Old Mill Road": "old mill rd", "x Rd.": "x rd", "x rd": "x rd", "5th Avenue": "5th ave", "5th Ave.": "5th ave", "5th Ave": "5th ave", "Long LANE": "long ln", "Long Ln.": "long ln", "x Square": "x sq", "x Sq.": "x sq",
		"Street": "street", " Street ": "street", "STREET": "street", "St.": "st.", "Road": "road", "Rd.": "rd.", "Avenue": "avenue", "Lane": "lane", "Square": "square", "  Sq.": "sq.",
		"Street Street": "street st", "Street Road Lane": "street road ln", "Street Main": "street main", "St. Mary": "st. mary", "St. Mary St.": "st. mary st", "Square St. Lane": "square st. ln", "Lane Lane Lane": "lane lane ln",
		"Mainstreet": "mainstreet", "Main Streets": "main streets", "Main Street.": "main street.", "Main Str..": "main str..", "Main Stree": "main stree", "Main Strt": "main strt", "Main Roads": "main roads", "Main Road.": "main road.", "Main Avenue.": "main avenue.", "Main Av": "main av", "Main Av.": "main av.", "Main Lane.": "main lane.", "Main Square.": "main square.", "Main .": "main .", "Main -street": "main -street",
		"Main\tStreet": "main\tstreet", "Main Street\n": "main street\n", "\nMain Street": "\nmain st", "\t Main": "\t main", "Main \t": "main \t", "Main\u00a0Street": "main\u00a0street", "Main\u2003Street": "main\u2003street", "\vA\f B\r": "\va\f b\r",
		"ÄÖÜ Straße": "ÄÖÜ straße", "École Road": "École rd", "\u212aELVIN": "\u212aelvin", "İ ſt": "İ ſt", "x ſtreet": "x ſtreet", "Ａ": "Ａ", "\xff\xfe Street": "\xff\xfe st", "A\xffB": "a\xffb", "\xc3 A": "\xc3 a", "\xe6\x97 Lane": "\xe6\x97 ln", "\x00A\x00 B": "\x00a\x00 b", "\xa0A": "\xa0a", "\x85A": "\x85a", "\xff": "\xff",
	} {
		wantFolded(t, name, want)
	}
}

func TestP6_1FoldingOfEachByte(t *testing.T) {
	for i := range 256 {
		b := string([]byte{byte(i)})
		if b == " " {
			continue
		}
		want := b
		if i >= 'A' && i <= 'Z' {
			want = string([]byte{byte(i + 32)})
		}
		wantFolded(t, b, want)
		wantFolded(t, "x"+b+"y", "x"+want+"y")
		wantFolded(t, b+" "+b, want+" "+want)
		wantFolded(t, b+" Street", want+" st")
		wantFolded(t, "x Street"+b, "x street"+want)
		wantFolded(t, "x"+b+"street", "x"+want+"street")
		wantFolded(t, "x "+b+"road", "x "+want+"road")
	}
}

func TestP6_1Endings(t *testing.T) {
	random := source(4)
	for short, forms := range endings {
		for _, form := range append(forms, short) {
			for range 8 {
				f := pick(random, form, strings.ToUpper(form), randomCase(random, form))
				wantFolded(t, "Long "+f, "long "+short)
				wantFolded(t, "  The  Long  "+f+"  ", "the long "+short)
				wantFolded(t, f+" "+f, form+" "+short)
				wantFolded(t, f, form)
				wantFolded(t, "  "+f+"   ", form)
				wantFolded(t, f+" x", form+" x")
				wantFolded(t, "x "+f+" y", "x "+form+" y")
				wantFolded(t, "x"+f, "x"+form)
				wantFolded(t, "x "+f+"x", "x "+form+"x")
				wantFolded(t, "x x"+f, "x x"+form)
				wantFolded(t, "x-"+f, "x-"+form)
				wantFolded(t, "x "+f+"\t", "x "+form+"\t")
			}
		}
	}
}

func TestP6_1FoldingRandom(t *testing.T) {
	random := source(5)
	for range 5000 {
		name := pick(random, randomName(random), randomText(random, random.IntN(30), "  streaSTR."), randomText(random, random.IntN(12), everyByte()))
		if random.IntN(3) == 0 {
			name += " " + randomCase(random, pick(random, allEndings()...))
		}
		wantFolded(t, name, folded(name))
	}
	for _, n := range []int{200, 201, 100000} {
		wantFolded(t, strings.Repeat(" ", n), "")
		wantFolded(t, strings.Repeat("A", n), strings.Repeat("a", n))
		wantFolded(t, strings.Repeat("Street ", n), strings.Repeat("street ", n-1)+"st")
		wantFolded(t, "Street"+strings.Repeat(" ", n), "street")
	}
}

func TestP6_4Folding(t *testing.T) {
	random := source(6)
	for range 3000 {
		name := pick(random, randomName(random), randomText(random, random.IntN(20), "Str. eat "), randomText(random, random.IntN(12), everyByte()))
		want := match.Fold(name)
		wantFolded(t, want, want)
		wantFolded(t, randomCase(random, name), want)
		wantFolded(t, moreBlanks(random, name), want)
		wantFolded(t, moreBlanks(random, randomCase(random, name)), want)
	}
	for short, forms := range endings {
		for _, form := range append(forms, short) {
			for _, other := range append(forms, short) {
				for range 5 {
					name := "x" + randomName(random) + " "
					wantFolded(t, name+form, match.Fold(name+other))
				}
			}
		}
	}
}

func TestP6_1Limits(t *testing.T) {
	var l []api.Street
	for n := range 10 {
		l = append(l, street(strings.Repeat("x", n)))
	}
	var want []api.Candidate
	for most := range maxMost + 1 {
		want = append(want, candidate(most, 5, most))
		wantCandidates(t, l, address(""), most, want...)
	}
	for _, most := range []int{-1, -2, -7, 7, 8, 100, 1 << 32, math.MinInt, math.MaxInt} {
		wantCandidates(t, l, address(""), most)
		wantCandidates(t, l, address("x"), most)
		wantCandidates(t, nil, address(""), most)
	}
	wantCandidates(t, l, address("x"), 0, candidate(1, 5, 0))
	for most := range 7 {
		wantCandidates(t, nil, address("x"), most)
		wantCandidates(t, nil, api.Address{}, most)
	}
}

func TestP6_1HouseNumbers(t *testing.T) {
	for _, x := range []struct {
		low, high, shift, number int
		isThere                  bool
	}{
		{1, 9, 0, 0, false}, {1, 9, 0, 1, true}, {1, 9, 0, 2, true}, {1, 9, 0, 8, true}, {1, 9, 0, 9, true}, {1, 9, 0, 10, false}, {1, 9, 0, -5, false},
		{5, 5, 0, 4, false}, {5, 5, 0, 5, true}, {5, 5, 0, 6, false}, {101, 109, 100, 100, false}, {101, 109, 100, 101, true}, {101, 109, 100, 105, true}, {101, 109, 100, 109, true}, {101, 109, 100, 110, false}, {101, 109, 100, 1, false}, {101, 109, 100, 5, false},
		{1, 9, -100, 1, true}, {1, 9, -100, 9, true}, {1, 9, -100, 10, false}, {1, 9, -100, 101, false}, {1, 9, -100, 105, false}, {9990, 9999, -9, 9999, true}, {9990, 9999, -9, 10000, false}, {9990, 9999, -9, 9989, false},
		// The chapter asks nothing of the numbers of a street.
		{9, 1, 0, 5, false}, {9, 1, 0, 9, false}, {9, 1, 0, 1, false}, {0, 0, 0, 0, true}, {0, 0, 7, 0, true}, {-3, 3, 1, -3, true}, {-3, 3, 1, 0, true}, {-3, 3, 1, -4, false}, {-3, 3, 1, 4, false},
		{math.MinInt, math.MaxInt, 0, math.MinInt, true}, {math.MinInt, math.MaxInt, 0, math.MaxInt, true}, {math.MinInt, math.MaxInt, 1, 0, true}, {math.MaxInt, math.MaxInt, 0, math.MaxInt, true}, {math.MaxInt, math.MaxInt, 0, math.MinInt, false}, {math.MinInt, math.MinInt, 0, math.MinInt, true}, {math.MinInt, math.MinInt, 0, math.MaxInt, false},
	} {
		l := streets(withNumbers(street("Main"), x.low, x.high, x.shift), closed(withNumbers(street("Main"), x.low, x.high, x.shift)))
		a := address("Main")
		a.Number = x.number
		if x.isThere {
			wantCandidates(t, l, a, 0, candidate(0, x.number-x.shift, 0))
			wantCandidates(t, l, a, 6, candidate(0, x.number-x.shift, 0))
		} else {
			wantCandidates(t, l, a, 0)
			wantCandidates(t, l, a, 6)
		}
	}
}

func TestP6_1Costs(t *testing.T) {
	for _, x := range []struct {
		s    api.Street
		a    api.Address
		want int
	}{
		// Names are compared in their folded forms, codes as they are.
		{street("Main Street"), address("MAIN  str."), 0}, {street("main st"), address(" Main Street"), 0}, {street("Main St."), address("Main Rd."), 2}, {street("Main Street"), address("Main"), 3}, {street("Street"), address("St."), 4}, {street(""), address(""), 0}, {street(""), address("  "), 0}, {street("  "), address("abcdef"), 6}, {street(""), address("abcdefg"), -1}, {street("ä"), address("Ä"), 1},
		{withCode(street("A"), "1A00"), address("A"), 1}, {withCode(street("A"), "1000 "), address("A"), 1}, {withCode(street("A"), ""), address("A"), 4}, {withCode(street("A"), "999999"), address("A"), 6}, {withCode(street("A"), "9999999"), address("A"), -1}, {withCode(street("A"), "0100"), address("A"), 2},
		{withCode(street("A"), "abc"), api.Address{Street: "A", Number: 5, Code: "ABC"}, 3}, {withCode(street("A"), "A Street"), api.Address{Street: "A", Number: 5, Code: "A St"}, 4},
		{withTown(street("A"), "TOWN"), address("A"), 0}, {withTown(street("A"), " town "), address("A"), 0}, {withTown(street("A"), "Twon"), address("A"), 2}, {withTown(street("A"), ""), address("A"), 4}, {withTown(street("A"), "Old Street"), api.Address{Street: "A", Number: 5, Town: "old st."}, 0}, {withTown(street("A"), "Street"), api.Address{Street: "A", Number: 5, Town: "St."}, 4},
		// What the address leaves out costs nothing.
		{street("A"), api.Address{Street: "A", Number: 5}, 0}, {street("A"), api.Address{Street: "A", Number: 5, Code: "1000"}, 0}, {street("A"), api.Address{Street: "A", Number: 5, Town: "Town"}, 0}, {withCode(street("A"), "a very long code"), api.Address{Street: "A", Number: 5, Town: "Town"}, 0}, {withTown(street("A"), "a very long town"), api.Address{Street: "A", Number: 5, Code: "1000"}, 0}, {withTown(withCode(street("A"), "a very long code"), "a very long town"), api.Address{Street: "A", Number: 5}, 0},
		{withTown(street("A"), "x"), api.Address{Street: "B", Number: 5, Code: "1001"}, 2}, {withCode(street("A"), "x"), api.Address{Street: "B", Number: 5, Town: "Toon"}, 2},
		// A town of blanks is not empty, but its folded form is.
		{street("A"), api.Address{Street: "A", Number: 5, Town: "  "}, 4}, {withTown(street("A"), ""), api.Address{Street: "A", Number: 5, Town: "  "}, 0}, {withTown(street("A"), " "), api.Address{Street: "A", Number: 5, Town: "x"}, 1}, {withCode(street("A"), "  "), api.Address{Street: "A", Number: 5, Code: " "}, 1},
		// The sum.
		{withCode(withTown(street("Main"), "Towns"), "1001"), address("Mail"), 3}, {withCode(withTown(street("Main"), "Towns"), "1011"), address("Mall"), 5}, {withCode(withTown(street("Main"), "Towers"), "1011"), address("Mall"), -1}, {withCode(withTown(street("Main"), "Towne"), "1111"), address("Mall"), 6}, {withCode(withTown(street("Main"), "Towne"), "2111"), address("Mall"), -1},
		// The person does not matter.
		{street("A"), api.Address{Person: "Ada", Street: "A", Number: 5}, 0},
		// The nearest of the name and the aliases counts.
		{street("Main", "High"), address("High"), 0}, {street("Main", "High"), address("Main"), 0}, {street("Main", "High", "Long"), address("Long"), 0}, {street("Main", "High", "Long"), address("High"), 0}, {street("Main", "Hig", "Hi"), address("High"), 1}, {street("Main", "Hi", "Hig"), address("High"), 1}, {street("Hig", "Main", "Hi"), address("High"), 1}, {street("completely other", "High Street"), address("HIGH str."), 0}, {street("x", "completely other"), address("y"), 1}, {street("completely other", "another other"), address("y"), -1}, {street("abc", ""), address(""), 0}, {street("", "abc"), address("abcd"), 1},
		{withCode(street("Main", "High"), "1001"), address("Hugh"), 2},
	} {
		wantCost(t, x.s, x.a, x.want)
		wantCost(t, closed(x.s), x.a, -1)
	}
}

// TestP6_1LongTextsOfStreets checks that a text of more than 200 bytes matters where it is compared, and nowhere else, also if its folded form is short.
func TestP6_1LongTextsOfStreets(t *testing.T) {
	s := street("Main", "High", "Long")
	a := address("Main")
	a.Person = "Ada"
	noCode, noTown := a, a
	noCode.Code, noTown.Town = "", ""
	aliased := func(at int, alias string) api.Street {
		x := s
		x.Aliases = slices.Clone(s.Aliases)
		x.Aliases[at] = alias
		return x
	}
	named := func(name string) api.Street {
		x := s
		x.Name = name
		return x
	}
	for n := 195; n <= 205; n++ {
		padded := func(text string) string { return text + strings.Repeat(" ", n-len(text)) }
		want := 0
		if n > 200 {
			want = -1
		}
		x := a
		x.Street = padded("Main")
		wantCost(t, s, x, want)
		x = a
		x.Town = padded("Town")
		wantCost(t, s, x, want)
		wantCost(t, named(padded("Main")), a, want)
		wantCost(t, named(padded("x")), address("High"), want) // the alias alone is near
		wantCost(t, aliased(0, padded("Main")), a, want)
		wantCost(t, aliased(0, padded("x")), a, want)
		wantCost(t, aliased(1, padded("x")), a, want)
		wantCost(t, aliased(1, strings.Repeat("x", n)), a, want)
		wantCost(t, withTown(s, padded("Town")), a, want)
		wantCost(t, withTown(s, padded("Town")), noCode, want)
		wantCost(t, withCode(s, "1000"+strings.Repeat("0", n-4)), a, -1) // exists with 200 bytes, but is too great
		// Equal texts are too long, too.
		x = a
		x.Code = strings.Repeat("1", n)
		wantCost(t, withCode(s, x.Code), x, want)
		if want == 0 {
			wantCost(t, withCode(s, x.Code[2:]), x, 2)
		} else {
			wantCost(t, withCode(s, x.Code[2:]), x, -1)
			wantCost(t, withCode(s, "1"), x, -1)
		}
		x = a
		x.Town = strings.Repeat("t", n)
		wantCost(t, withTown(s, x.Town), x, want)
		x = a
		x.Street = strings.Repeat("s", n)
		wantCost(t, named(x.Street), x, want)
		// Where nothing is compared.
		wantCost(t, withCode(s, strings.Repeat("1", n)), noCode, 0)
		wantCost(t, withTown(s, strings.Repeat("t", n)), noTown, 0)
		x = a
		x.Person = strings.Repeat("p", n)
		wantCost(t, s, x, 0)
		wantCandidates(t, streets(closed(named(padded("Main"))), s, withNumbers(named(padded("Main")), 6, 9, 0)), a, 6, candidate(1, 5, 0))
	}
	long := strings.Repeat("x", 1000000)
	wantCandidates(t, streets(named(long), aliased(1, long), withCode(s, long), withTown(s, long), s), a, 6, candidate(4, 5, 0))
	wantCandidates(t, streets(withCode(s, long), withTown(s, long), s), noCode, 6, candidate(0, 5, 0), candidate(2, 5, 0))
	wantCandidates(t, streets(withCode(s, long), withTown(s, long), s), noTown, 6, candidate(1, 5, 0), candidate(2, 5, 0))
	wantCandidates(t, streets(s, named(long)), address(long), 6)
}

func TestP6_1EqualCosts(t *testing.T) {
	a := address("Main")
	var l []api.Street
	var want []api.Candidate
	for range 50 { // more than a sort takes at once
		l = append(l, street("Main"), street("Mail"), closed(street("Main")), street("Mall"), street("Mann"))
	}
	for i := range l {
		l[i].Shift = i
	}
	for c, offsets := range [][]int{{0}, {1, 4}, {3}} {
		for i := range l {
			if slices.Contains(offsets, i%5) {
				want = append(want, candidate(i, 5-i, c))
			}
		}
	}
	wantCandidates(t, l, a, 6, want...)
	wantCandidates(t, l, a, 2, want...)
	wantCandidates(t, l, a, 1, want[:150]...)
	wantCandidates(t, l, a, 0, want[:50]...)
	// The same street twice is two candidates.
	wantCandidates(t, streets(l[0], l[0], l[1], l[0]), a, 6, candidate(0, 5, 0), candidate(1, 5, 0), candidate(3, 5, 0), candidate(2, 4, 1))
}

func TestP6_1CandidatesRandom(t *testing.T) {
	random := source(7)
	found := 0
	for range 4000 {
		l := randomStreets(random, 12)
		a := randomAddress(random, l)
		if random.IntN(4) == 0 {
			l, a = withLong(random, l, a)
		}
		most := random.IntN(9) - 1
		want := candidates(l, a, most)
		found += len(want)
		wantCandidates(t, l, a, most, want...)
	}
	if found < 1000 {
		t.Errorf("only %d candidates", found)
	}
}

func TestP6_5Candidates(t *testing.T) {
	random := source(8)
	for range 2000 {
		l, most := randomStreets(random, 40), random.IntN(7)
		a := randomAddress(random, l)
		got := match.Candidates(l, a, most)
		seen := map[int]bool{}
		for i, c := range got {
			if c.Point.Street < 0 || c.Point.Street >= len(l) {
				t.Fatalf("Candidates(%+v, %+v, %d): no street %d", l, a, most, c.Point.Street)
			}
			s := l[c.Point.Street]
			if !s.Open || s.Low > a.Number || s.High < a.Number || c.Point.Number+s.Shift != a.Number || c.Cost < 0 || c.Cost > most {
				t.Errorf("Candidates(%+v, %+v, %d): %v of the street %+v", l, a, most, c, s)
			}
			if seen[c.Point.Street] {
				t.Errorf("Candidates(%+v, %+v, %d): twice %v", l, a, most, c)
			}
			seen[c.Point.Street] = true
			if i > 0 && (got[i-1].Cost > c.Cost || got[i-1].Cost == c.Cost && got[i-1].Point.Street > c.Point.Street) {
				t.Errorf("Candidates(%+v, %+v, %d): %v before %v", l, a, most, got[i-1], c)
			}
		}
	}
}

func TestP6_6ExactAddresses(t *testing.T) {
	random := source(9)
	exact, zero := 0, 0
	for range 3000 {
		l := randomStreets(random, 8)
		for i, s := range l {
			a := api.Address{Street: pick(random, append(s.Aliases, s.Name)...), Number: pick(random, s.Low, s.High), Code: s.Code, Town: s.Town}
			if random.IntN(2) == 0 {
				a.Street, a.Town = moreBlanks(random, randomCase(random, a.Street)), moreBlanks(random, randomCase(random, a.Town))
			}
			want := candidate(i, a.Number-s.Shift, 0)
			for most := range maxMost + 1 {
				if got := match.Candidates(l, a, most); slices.Contains(got, want) != s.Open {
					t.Errorf("Candidates(%+v, %+v, %d) = %v: without %v", l, a, most, got, want)
				}
			}
			exact++
		}
		a := randomAddress(random, l)
		for _, c := range match.Candidates(l, a, maxMost) {
			s := l[c.Point.Street]
			isNamed := slices.ContainsFunc(append(s.Aliases, s.Name), func(name string) bool { return match.Fold(name) == match.Fold(a.Street) })
			isPlaced := (a.Code == "" || a.Code == s.Code) && (a.Town == "" || match.Fold(a.Town) == match.Fold(s.Town))
			if (c.Cost == 0) != (isNamed && isPlaced) {
				t.Errorf("the cost of %+v for %+v is %d", s, a, c.Cost)
			}
			if c.Cost == 0 {
				zero++
			}
		}
	}
	if exact < 1000 || zero < 100 {
		t.Errorf("only %d exact addresses, and %d costs of 0", exact, zero)
	}
}

func TestP6_7Limits(t *testing.T) {
	random := source(10)
	for range 2000 {
		l := randomStreets(random, 30)
		a := randomAddress(random, l)
		all := match.Candidates(l, a, maxMost)
		for most := range maxMost + 1 {
			n := 0
			for n < len(all) && all[n].Cost <= most {
				n++
			}
			wantCandidates(t, l, a, most, all[:n]...)
		}
		wantCandidates(t, l, a, -1)
		wantCandidates(t, l, a, 7)
	}
}

func TestP6_8Streets(t *testing.T) {
	random := source(11)
	for range 1000 {
		l, most := randomStreets(random, 12), random.IntN(7)
		a := randomAddress(random, l)
		got := match.Candidates(l, a, most)
		for i, s := range l {
			costs := []int{}
			for _, c := range got {
				if c.Point.Street == i {
					costs = append(costs, c.Cost)
				}
			}
			alone := []int{}
			for _, c := range match.Candidates(streets(s), a, most) {
				alone = append(alone, c.Cost)
			}
			if !slices.Equal(costs, alone) {
				t.Errorf("Candidates(%+v, %+v, %d) = %v, but the street %d alone has %v", l, a, most, got, i, alone)
			}
			fewer := slices.Clone(l)
			fewer[i] = closed(s)
			wantCandidates(t, fewer, a, most, slices.DeleteFunc(slices.Clone(got), func(c api.Candidate) bool { return c.Point.Street == i })...)
		}
	}
}

// TestP6_8OrderOfStreets checks that other streets, in whatever order, change nothing but the indices.
func TestP6_8OrderOfStreets(t *testing.T) {
	random := source(12)
	for range 1000 {
		l, most := randomStreets(random, 12), random.IntN(7)
		a := randomAddress(random, l)
		order := random.Perm(len(l))
		moved := make([]api.Street, len(l))
		for i, at := range order {
			moved[at] = l[i]
		}
		want := match.Candidates(l, a, most)
		for i := range want {
			want[i].Point.Street = order[want[i].Point.Street]
		}
		slices.SortFunc(want, func(c, d api.Candidate) int {
			if c.Cost != d.Cost {
				return c.Cost - d.Cost
			}
			return c.Point.Street - d.Point.Street
		})
		wantCandidates(t, moved, a, most, want...)
	}
}

// copied returns streets that share no slices with others.
func copied(l []api.Street) []api.Street {
	m := slices.Clone(l)
	for i := range m {
		m[i].Aliases = slices.Clone(m[i].Aliases)
	}
	return m
}

// TestP1EveryArgument checks that all functions return, whatever they are given, and that what is given stays as it was.
func TestP1EveryArgument(t *testing.T) {
	random := source(13)
	numbers := []int{math.MinInt, math.MinInt + 1, -1 << 32, -10000, -1, 0, 1, 2, 5, 6, 7, 9, 200, 201, 9999, 10000, 1 << 32, math.MaxInt - 1, math.MaxInt}
	texts := []string{"", " ", "A", "a", "a b", "Street", "x St.", "1000", "é", "\xff", "\x00", everyByte(), everyByte()[:200], everyByte()[56:], strings.Repeat("x", 200), strings.Repeat("x", 201), strings.Repeat(" ", 201), strings.Repeat("x ", 1000)}
	text, number := func() string { return pick(random, texts...) }, func() int { return pick(random, numbers...) }
	for _, a := range texts {
		wantFolded(t, a, folded(a))
		for _, b := range texts {
			want := -1
			if len(a) <= 200 && len(b) <= 200 {
				want = distance(a, b)
			}
			wantDistance(t, a, b, want)
		}
	}
	for range 3000 {
		l := randomStreets(random, 5)
		for range random.IntN(4) {
			s := api.Street{Code: text(), Town: text(), Name: text(), Low: number(), High: number(), Shift: number(), Open: random.IntN(3) > 0}
			for range random.IntN(4) {
				s.Aliases = append(s.Aliases, text())
			}
			l = append(l, s)
		}
		a := api.Address{Person: text(), Street: text(), Number: number(), Code: text(), Town: text()}
		kept, most := copied(l), number()
		if random.IntN(2) == 0 {
			most = random.IntN(7)
		}
		wantCandidates(t, l, a, most, candidates(kept, a, most)...)
		if !reflect.DeepEqual(l, kept) {
			t.Errorf("%+v has become %+v", kept, l)
		}
	}
}

// TestP1RoomBehindAliases checks that the memory behind the aliases of a street, which is the caller's, stays as it was.
func TestP1RoomBehindAliases(t *testing.T) {
	room := slices.Repeat([]string{"High"}, 50)
	for n := range 10 {
		s := street("Main")
		s.Aliases = room[:n]
		wantCost(t, s, address("Main"), 0)
	}
	if !slices.Equal(room, slices.Repeat([]string{"High"}, 50)) {
		t.Errorf("the aliases have become %q", room)
	}
}

// TestP3Independence checks that calls do not depend on earlier ones, and that results share no memory with each other or with arguments.
func TestP3Independence(t *testing.T) {
	random := source(14)
	for range 500 {
		name := pick(random, randomName(random), "main", "a b", "main st")
		first := match.Fold(name)
		if len(first) > 1 && unsafe.StringData(name) == unsafe.StringData(first) { // texts of one byte have no memory of their own
			t.Errorf("Fold(%q) shares memory with it", name)
		}
		l, most := randomStreets(random, 12), random.IntN(7)
		a := randomAddress(random, l)
		got := match.Candidates(l, a, most)
		kept := slices.Clone(got)
		d := match.Distance(name, a.Street)
		for range 3 { // calls in between
			other := randomName(random)
			match.Distance(other, name)
			match.Fold(other)
			match.Candidates(randomStreets(random, 12), randomAddress(random, l), random.IntN(7))
		}
		again := match.Candidates(copied(l), a, most)
		clear(again)
		clear(l)
		if !slices.Equal(got, kept) {
			t.Errorf("the candidates have become %v, not %v", got, kept)
		}
		wantDistance(t, strings.Clone(name), strings.Clone(a.Street), d)
		wantFolded(t, strings.Clone(name), first)
	}
}
