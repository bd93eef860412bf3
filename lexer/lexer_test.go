package lexer_test

import (
	"math/rand/v2"
	"regexp"
	"slices"
	"strings"
	"testing"
	"unsafe"

	"postilion/api"
	"postilion/lexer"
)

const (
	maxSource = 8000
	maxTokens = 3000
)

var symbols = []string{"{", "}", "(", ")", "[", "]", ",", ";", ":", "=", "->", ".", "-"}

// short returns how a failing test shows a text.
func short(text string) string {
	if len(text) > 300 {
		return text[:150] + " .. " + text[len(text)-150:]
	}
	return text
}

// tok, num, sym and txt are tokens.
func tok(text string, at int) api.Token { return api.Token{Kind: api.TokenName, Text: text, At: at} }
func num(text string, at int) api.Token { return api.Token{Kind: api.TokenNumber, Text: text, At: at} }
func sym(text string, at int) api.Token { return api.Token{Kind: api.TokenSymbol, Text: text, At: at} }
func txt(text string, at int) api.Token { return api.Token{Kind: api.TokenText, Text: text, At: at} }

func wantTokens(t *testing.T, text string, want ...api.Token) {
	t.Helper()
	got, errno, at := lexer.Lex(text)
	if errno != api.OK || at != -1 || !slices.Equal(got, want) {
		t.Errorf("Lex(%q) = %v, %d, %d, not %v", short(text), got, errno, at, want)
	}
}

func wantError(t *testing.T, text string, errno api.Errno, at int) {
	t.Helper()
	got, e, a := lexer.Lex(text)
	if len(got) != 0 || e != errno || a != at {
		t.Errorf("Lex(%q) = %d tokens, %d, %d, not error %d at %d", short(text), len(got), e, a, errno, at)
	}
}

// mustLex returns the tokens of a text that has no error.
func mustLex(t *testing.T, text string) []api.Token {
	t.Helper()
	got, errno, at := lexer.Lex(text)
	if errno != api.OK || at != -1 {
		t.Fatalf("Lex(%q): error %d at %d", short(text), errno, at)
	}
	return got
}

// end returns the offset behind a token.
func end(k api.Token) int {
	if k.Kind == api.TokenText {
		return k.At + len(k.Text) + 2
	}
	return k.At + len(k.Text)
}

// moved returns tokens that stand n bytes further to the right.
func moved(l []api.Token, n int) []api.Token {
	m := slices.Clone(l)
	for i := range m {
		m[i].At += n
	}
	return m
}

func isWordByte(b byte) bool {
	return strings.IndexByte("abcdefghijklmnopqrstuvwxyzABCDEFGHIJKLMNOPQRSTUVWXYZ0123456789_", b) >= 0
}

var (
	gapPattern    = regexp.MustCompile(`^(?:[ \t\n\r]|%[^\n]*)*`)
	runPattern    = regexp.MustCompile(`^[A-Za-z0-9_]+`)
	digitsPattern = regexp.MustCompile(`^[0-9]+$`)
	textPattern   = regexp.MustCompile(`^"[ !#-~]{0,200}"`)
	symbolPattern = regexp.MustCompile(`^(?:->|[-{}()\[\],;:=.])`)
)

// pieceAt returns the kind and the bytes of the token at the beginning of a text, by another way than the program: with patterns, run by run.
func pieceAt(rest string) (int, int) {
	if n := len(symbolPattern.FindString(rest)); n > 0 {
		return api.TokenSymbol, n
	}
	if n := len(textPattern.FindString(rest)); n > 0 {
		return api.TokenText, n
	}
	run := runPattern.FindString(rest)
	switch digits := digitsPattern.MatchString(run); {
	case run == "":
	case digits && len(run) <= 8:
		return api.TokenNumber, len(run)
	case !digits && len(run) <= 20 && run[0] != '_':
		return api.TokenName, len(run)
	}
	return 0, 0
}

// lex does what Lex does, by another way.
func lex(text string) ([]api.Token, api.Errno, int) {
	if len(text) > maxSource {
		return nil, api.ErrLimit, maxSource
	}
	var l []api.Token
	for at := 0; ; {
		at += len(gapPattern.FindString(text[at:]))
		if at == len(text) {
			return l, api.OK, -1
		}
		if len(l) == maxTokens {
			return nil, api.ErrLimit, at
		}
		kind, n := pieceAt(text[at:])
		if n == 0 {
			return nil, api.ErrToken, at
		}
		l = append(l, api.Token{Kind: kind, Text: strings.Trim(text[at:at+n], `"`), At: at})
		at += n
	}
}

// wantSame checks that Lex and lex agree.
func wantSame(t *testing.T, text string) {
	t.Helper()
	got, errno, at := lexer.Lex(text)
	want, e, a := lex(text)
	if !slices.Equal(got, want) || errno != e || at != a {
		t.Errorf("Lex(%q) = %v, %d, %d, not %v, %d, %d", short(text), got, errno, at, want, e, a)
	}
}

// texts yields all texts of at most n of some pieces.
func texts(n int, pieces ...string) func(func(string) bool) {
	return func(yield func(string) bool) {
		var extend func(text string, left int) bool
		extend = func(text string, left int) bool {
			if !yield(text) {
				return false
			}
			if left == 0 {
				return true
			}
			for _, p := range pieces {
				if !extend(text+p, left-1) {
					return false
				}
			}
			return true
		}
		extend("", n)
	}
}

// gaps are gaps that are not empty; a comment is ended in each of them.
var gaps = []string{
	" ", "\t", "\n", "\r", "\r\n", " \t\r\n ", "\n\n\n", "%\n", "% a comment\n", "%%% \" -> { _ é \xff \x00 \r still the same\n", " % one\n% two\n\t% three\n  ",
	"%\r\n\r", strings.Repeat(" ", 300), "%" + strings.Repeat("x", 300) + "\n",
}

// pieces are tokens as they are written.
var pieces = []string{
	"a", "Z", "line", "l1", "A_", "1A", "1_", "0x", "12345678a", "a" + strings.Repeat("1", 19), "1" + strings.Repeat("_", 19),
	"0", "7", "00", "0042", "12345678", "00000000",
	`""`, `"x"`, `"Main St."`, `"% no comment"`, `"->"`, `" 12 {a}_~!#'\ "`, `"` + strings.Repeat("q", 200) + `"`,
	"{", "}", "(", ")", "[", "]", ",", ";", ":", "=", "->", ".", "-",
}

// wrongs begin with what is no token, wherever they stand behind a gap, and whatever follows their line.
var wrongs = []string{
	"_", "_a", "__1", "123456789", "000000000", "a" + strings.Repeat("1", 20), "1" + strings.Repeat("_", 20), ">", "<", "+", "*", "/", "\\", "'", "`", "!", "?", "#", "$", "&", "@", "^", "~", "|",
	`"`, `"abc`, "\"a\tb\"", "\"é\"", "\"\x7f\"", "\"\x1f\"", "\"\x00\"", `"` + strings.Repeat("q", 201) + `"`, `"` + strings.Repeat("q", 400),
	"\x00", "\x01", "\v", "\f", "\x08", "\x0e", "\x1f", "\x7f", "\x80", "\xa0", "\xff", "é", "\u00a0", "\u2028", "\ufeff", "１",
}

func source() *rand.Rand { return rand.New(rand.NewPCG(3, 1)) }

func pick(r *rand.Rand, l []string) string { return l[r.IntN(len(l))] }

// randomText returns a text without errors of at most n tokens.
func randomText(r *rand.Rand, n int) string {
	var b strings.Builder
	for range r.IntN(n + 1) {
		p := pick(r, pieces)
		before := b.String()
		touching := before != "" && isWordByte(before[len(before)-1]) && isWordByte(p[0])
		if touching || r.IntN(2) == 0 {
			b.WriteString(pick(r, gaps))
		}
		b.WriteString(p)
	}
	switch r.IntN(4) {
	case 0:
		b.WriteString("% at the end")
	case 1:
		b.WriteString(pick(r, gaps))
	}
	return b.String()
}

// randomTexts returns some texts without errors.
func randomTexts(n int) []string {
	r := source()
	l := []string{"", " ", "%", "% only a comment", "\n"}
	for range n {
		l = append(l, randomText(r, 25))
	}
	return l
}

// wrongTexts returns some texts with a wrong token, and its offset.
func wrongTexts(n int) ([]string, []int) {
	r := source()
	var l []string
	var at []int
	for i := range n {
		text := randomText(r, 12) + "\n"
		at = append(at, len(text))
		l = append(l, text+wrongs[i%len(wrongs)])
	}
	return l, at
}

func TestP3_1Examples(t *testing.T) {
	wantTokens(t, "line l1: a -> b2;", tok("line", 0), tok("l1", 5), sym(":", 7), tok("a", 9), sym("->", 11), tok("b2", 14), sym(";", 16))
	wantTokens(t, `"Main St." 0042 1A % x`, txt("Main St.", 0), num("0042", 11), tok("1A", 16))
	wantError(t, "x 123456789", api.ErrToken, 2)
}

func TestP3_1Numbers(t *testing.T) {
	for n := 1; n <= 8; n++ {
		wantTokens(t, "1234567890"[:n], num("1234567890"[:n], 0))
		wantTokens(t, strings.Repeat("0", n), num(strings.Repeat("0", n), 0))
		wantTokens(t, "-"+strings.Repeat("9", n)+";", sym("-", 0), num(strings.Repeat("9", n), 1), sym(";", n+1))
	}
	for _, n := range []int{9, 10, 19, 20, 21, 7000} {
		wantError(t, strings.Repeat("1", n), api.ErrToken, 0)
		wantError(t, "a "+strings.Repeat("0", n)+" b", api.ErrToken, 2)
	}
	for d := byte('0'); d <= '9'; d++ {
		wantTokens(t, string(d), num(string(d), 0))
	}
	wantTokens(t, "1.5", num("1", 0), sym(".", 1), num("5", 2))
	wantTokens(t, "12 34", num("12", 0), num("34", 3))
}

func TestP3_1Names(t *testing.T) {
	for n := 1; n <= 20; n++ {
		wantTokens(t, strings.Repeat("n", n), tok(strings.Repeat("n", n), 0))
		wantTokens(t, "a"+strings.Repeat("_", n-1), tok("a"+strings.Repeat("_", n-1), 0))
		wantTokens(t, ";"+strings.Repeat("7", n-1)+"X=", sym(";", 0), tok(strings.Repeat("7", n-1)+"X", 1), sym("=", n+1))
	}
	for _, n := range []int{21, 22, 40, 7000} {
		wantError(t, strings.Repeat("n", n), api.ErrToken, 0)
		wantError(t, "a "+strings.Repeat("1", n-1)+"b", api.ErrToken, 2)
	}
	for b := range 256 {
		if c := string([]byte{byte(b)}); c != "_" && isWordByte(byte(b)) {
			wantTokens(t, c+"a", tok(c+"a", 0))
			wantTokens(t, "a"+c, tok("a"+c, 0))
			wantTokens(t, c+"_", tok(c+"_", 0))
		}
	}
	wantTokens(t, "1A", tok("1A", 0))
	wantTokens(t, "1_", tok("1_", 0))
	wantTokens(t, "12345678_", tok("12345678_", 0))
	wantTokens(t, "123456789a", tok("123456789a", 0))
	wantTokens(t, "1234567890123456789a", tok("1234567890123456789a", 0))
	wantTokens(t, "a_", tok("a_", 0))
	wantTokens(t, "a_b_1", tok("a_b_1", 0))
	for _, text := range []string{"_", "__", "_a", "_1", "_A1", strings.Repeat("_", 20), strings.Repeat("_", 21)} {
		wantError(t, text, api.ErrToken, 0)
		wantError(t, "a;"+text, api.ErrToken, 2)
		wantTokens(t, "a"+text[:min(len(text), 19)], tok("a"+text[:min(len(text), 19)], 0))
	}
}

// TestP3_1Runs checks all runs of at most six of some word bytes, and longer ones with one byte of another sort at each place.
func TestP3_1Runs(t *testing.T) {
	for run := range texts(6, "a", "Z", "0", "9", "_") {
		wantSame(t, run)
		wantSame(t, "-"+run+".")
	}
	for n := 7; n <= 23; n++ {
		for _, most := range []string{"5", "b", "_"} {
			for _, one := range []string{"5", "b", "_"} {
				for at := range n {
					wantSame(t, strings.Repeat(most, at)+one+strings.Repeat(most, n-at-1))
				}
			}
		}
	}
}

func TestP3_1QuotedTexts(t *testing.T) {
	for _, n := range []int{0, 1, 2, 20, 21, 199, 200} {
		q := strings.Repeat("q", n)
		wantTokens(t, `"`+q+`"`, txt(q, 0))
		wantTokens(t, ` "`+q+`"x`, txt(q, 1), tok("x", n+3))
	}
	for _, n := range []int{201, 202, 1000, 7900} {
		q := strings.Repeat("q", n)
		wantError(t, `"`+q+`"`, api.ErrToken, 0)
		wantError(t, `a "`+q+`" b`, api.ErrToken, 2)
		wantError(t, `"`+q, api.ErrToken, 0)
	}
	for b := range 256 {
		c := string([]byte{byte(b)})
		switch {
		case c == `"`:
			wantError(t, `"`+c+`"`, api.ErrToken, 2)
		case b >= 32 && b <= 126:
			wantTokens(t, `"`+c+`"`, txt(c, 0))
			wantTokens(t, `"a`+c+`b"`, txt("a"+c+"b", 0))
		default:
			wantError(t, `"`+c+`"`, api.ErrToken, 0)
			wantError(t, `; "a`+c+`b"`, api.ErrToken, 2)
		}
	}
	wantTokens(t, `"a""b"`, txt("a", 0), txt("b", 3))
	wantTokens(t, `""""`, txt("", 0), txt("", 2))
	wantTokens(t, `"%" % "`, txt("%", 0))
	wantTokens(t, `a"b"1`, tok("a", 0), txt("b", 1), num("1", 4))
	wantTokens(t, `"  a  "`, txt("  a  ", 0))
	wantTokens(t, `"_"`, txt("_", 0))
	wantTokens(t, `"\"`, txt(`\`, 0))
	for _, text := range []string{`"`, `"a`, `"a b`, "\"a\nb\"", "\"a\n", `"a % b`, "\"a\rb\"", "\"a\tb\""} {
		wantError(t, text, api.ErrToken, 0)
		wantError(t, `"" `+text, api.ErrToken, 3)
	}
	wantError(t, `"""`, api.ErrToken, 2)
	wantError(t, "\""+strings.Repeat("q", 200), api.ErrToken, 0)
	wantError(t, "\""+strings.Repeat("q", 200)+"\n\"", api.ErrToken, 0)
}

func TestP3_1Symbols(t *testing.T) {
	for _, s := range symbols {
		wantTokens(t, s, sym(s, 0))
		wantTokens(t, "a"+s+"1", tok("a", 0), sym(s, 1), num("1", 1+len(s)))
		wantTokens(t, " "+s+`"x"`, sym(s, 1), txt("x", 1+len(s)))
		for _, next := range symbols {
			wantTokens(t, s+next, sym(s, 0), sym(next, len(s)))
			wantTokens(t, s+"\n"+next, sym(s, 0), sym(next, len(s)+1))
		}
	}
}

// TestP3_1Longest checks the places at which two tokens begin.
func TestP3_1Longest(t *testing.T) {
	wantTokens(t, "->", sym("->", 0))
	wantTokens(t, "-->", sym("-", 0), sym("->", 1))
	wantTokens(t, "->-", sym("->", 0), sym("-", 2))
	wantTokens(t, "->->", sym("->", 0), sym("->", 2))
	wantTokens(t, "a->b", tok("a", 0), sym("->", 1), tok("b", 3))
	wantTokens(t, "-1", sym("-", 0), num("1", 1))
	wantError(t, "- >", api.ErrToken, 2)
	wantError(t, "-%\n>", api.ErrToken, 3)
	wantError(t, "->>", api.ErrToken, 2)
	wantError(t, ">-", api.ErrToken, 0)
	wantError(t, "=>", api.ErrToken, 1)
}

func TestP3_1Gaps(t *testing.T) {
	for _, text := range []string{"", " ", "\t", "\n", "\r", "%", "%%", "% a", "%\n", "% a\n% b", " \t\r\n%", "%\"", "%\n\n%\n", "% \r a", "%\x00\xff"} {
		wantTokens(t, text)
	}
	for _, g := range gaps {
		wantTokens(t, g)
		wantTokens(t, g+"a", tok("a", len(g)))
		wantTokens(t, "a"+g, tok("a", 0))
		wantTokens(t, "a"+g+"a", tok("a", 0), tok("a", 1+len(g)))
		wantTokens(t, "1"+g+"2"+g, num("1", 0), num("2", 1+len(g)))
		for _, h := range gaps {
			wantTokens(t, g+h+";", sym(";", len(g)+len(h)))
		}
	}
	wantTokens(t, "a%b", tok("a", 0))
	wantTokens(t, "a%b\nc", tok("a", 0), tok("c", 4))
	wantTokens(t, "%a\rb\nc", tok("c", 5))
	wantTokens(t, "% é\na", tok("a", 5))
	wantTokens(t, "a % at the end", tok("a", 0))
	wantTokens(t, "a %", tok("a", 0))
	wantTokens(t, "a % one\n% two", tok("a", 0))
}

// TestP3_1Bytes checks each byte, and each two, behind and before tokens.
func TestP3_1Bytes(t *testing.T) {
	for b := range 256 {
		c := string([]byte{byte(b)})
		for _, text := range []string{c, c + c, " " + c, c + " ", "a" + c, c + "a", "1" + c, "-" + c, c + ">", `"` + c, c + `"`, `""` + c, "a " + c + " b", "%" + c, "%" + c + "_", "a%\n" + c} {
			wantSame(t, text)
		}
		for d := range 256 {
			wantSame(t, c+string([]byte{byte(d)}))
		}
	}
}

// TestP3_1ShortTexts checks all texts of at most four of some bytes.
func TestP3_1ShortTexts(t *testing.T) {
	for text := range texts(4, "a", "1", "_", "-", ">", "\"", "%", "\n", " ", "\r", "{", ".", "\xe9", "\x00") {
		wantSame(t, text)
	}
}

func TestP3_1LongTexts(t *testing.T) {
	for _, text := range randomTexts(400) {
		wantSame(t, text)
	}
	wrong, at := wrongTexts(20 * len(wrongs))
	for i, text := range wrong {
		wantSame(t, text)
		wantError(t, text, api.ErrToken, at[i])
	}
}

func TestP3_1Bound(t *testing.T) {
	for _, n := range []int{7999, 8000} {
		blanks := strings.Repeat(" ", n-1)
		wantTokens(t, blanks+" ")
		wantTokens(t, "%"+blanks)
		wantTokens(t, "a"+blanks, tok("a", 0))
		wantTokens(t, blanks+"a", tok("a", n-1))
		wantError(t, blanks+"_", api.ErrToken, n-1)
		wantError(t, blanks+"\xff", api.ErrToken, n-1)
		wantError(t, blanks+`"`, api.ErrToken, n-1)
	}
	for _, n := range []int{8001, 8002, 16000, 1 << 20} {
		for _, c := range []string{" ", "%", "a", "_", "\"", "-", "\x00", "\xff"} {
			wantError(t, strings.Repeat(c, n), api.ErrLimit, 8000)
		}
		wantError(t, "_"+strings.Repeat(" ", n-1), api.ErrLimit, 8000)
		wantError(t, strings.Repeat("a ", 3001)+"_"+strings.Repeat(" ", n), api.ErrLimit, 8000)
		wantError(t, strings.Repeat(" ", n-1)+"_", api.ErrLimit, 8000)
	}
	// The bound is one of bytes, and not of characters.
	wantTokens(t, "%"+strings.Repeat("é", 3999))
	wantError(t, "%"+strings.Repeat("é", 4000), api.ErrLimit, 8000)
}

func TestP3_1TokenBound(t *testing.T) {
	for _, p := range []string{";", "->", "a ", "1 ", `""`, "{\n"} {
		full := strings.Repeat(p, 3000)
		if got := mustLex(t, full); len(got) != 3000 {
			t.Errorf("Lex(%q): %d tokens", short(full), len(got))
		}
		for _, g := range append([]string{"", "%", "% a", " % }\n%"}, gaps...) {
			if got := mustLex(t, full+g); len(got) != 3000 {
				t.Errorf("Lex(%q): %d tokens", short(full+g), len(got))
			}
			if strings.HasPrefix(g, "%") && !strings.HasSuffix(g, "\n") || g == " % }\n%" {
				continue // what follows belongs to the comment
			}
			for _, more := range append(slices.Clone(pieces), wrongs...) {
				wantError(t, full+g+more, api.ErrLimit, len(full)+len(g))
			}
		}
		few := strings.Repeat(p, 2999)
		wantError(t, few+"_", api.ErrToken, len(few))
		wantError(t, few+" >;;;", api.ErrToken, len(few)+1)
		wantError(t, few+",_", api.ErrLimit, len(few)+1)
		wantError(t, few+",\n\n,_", api.ErrLimit, len(few)+3)
		wantError(t, "_"+full+";", api.ErrToken, 0)
		wantError(t, "; > "+full, api.ErrToken, 2)
	}
}

func TestP3_1WrongTokens(t *testing.T) {
	for _, w := range wrongs {
		wantError(t, w, api.ErrToken, 0)
		wantError(t, w+"\n;", api.ErrToken, 0)
		for _, g := range gaps {
			wantError(t, g+w, api.ErrToken, len(g))
			wantError(t, "a"+g+w, api.ErrToken, 1+len(g))
			wantError(t, `;""`+g+w+"\n"+g, api.ErrToken, 3+len(g))
		}
		// The first wrong token counts.
		wantError(t, ", "+w+"\n_", api.ErrToken, 2)
		wantError(t, ", _ "+w, api.ErrToken, 2)
	}
}

// TestP3_2Cover puts a text together again from its tokens and from what is left between them, which must be gaps.
func TestP3_2Cover(t *testing.T) {
	for _, text := range randomTexts(400) {
		at := 0
		for _, k := range mustLex(t, text) {
			if k.At < at || end(k) > len(text) || end(k) == k.At {
				t.Fatalf("Lex(%q): %v does not follow %d", short(text), k, at)
			}
			if !isGap(text[at:k.At], false) {
				t.Errorf("Lex(%q): %q before %v is no gap", short(text), text[at:k.At], k)
			}
			want := k.Text
			if k.Kind == api.TokenText {
				want = `"` + k.Text + `"`
			}
			if text[k.At:end(k)] != want {
				t.Errorf("Lex(%q): %v is written as %q", short(text), k, text[k.At:end(k)])
			}
			at = end(k)
		}
		if !isGap(text[at:], true) {
			t.Errorf("Lex(%q): %q at the end is no gap", short(text), text[at:])
		}
	}
}

// isGap reports whether a piece of a text, at its end or not, is a gap.
func isGap(piece string, last bool) bool {
	lines := strings.Split(piece, "\n")
	for i, l := range lines {
		blanks, _, comment := strings.Cut(l, "%")
		if strings.Trim(blanks, " \t\r") != "" || comment && i == len(lines)-1 && !last {
			return false
		}
	}
	return true
}

// TestP3_3Layout writes tokens with several gaps between them.
func TestP3_3Layout(t *testing.T) {
	r := source()
	for _, text := range randomTexts(60) {
		tokens := mustLex(t, text)
		for variant := range 12 {
			var b strings.Builder
			want := slices.Clone(tokens)
			for i, k := range tokens {
				needed := i > 0 && isWordByte(text[end(tokens[i-1])-1]) && isWordByte(text[k.At])
				switch {
				case variant > 0:
					b.WriteString(gaps[(variant+r.IntN(2))%len(gaps)])
				case needed:
					b.WriteString("\r")
				}
				want[i].At = b.Len()
				b.WriteString(text[k.At:end(k)])
			}
			if variant == 11 {
				b.WriteString("%")
			}
			if b.Len() <= maxSource {
				wantTokens(t, b.String(), want...)
			}
		}
	}
}

// TestP3_4Runs checks what stands beside names and numbers.
func TestP3_4Runs(t *testing.T) {
	check := func(text string) {
		tokens, _, _ := lexer.Lex(text)
		for _, k := range tokens {
			if k.Kind != api.TokenName && k.Kind != api.TokenNumber {
				continue
			}
			if k.At > 0 && isWordByte(text[k.At-1]) || end(k) < len(text) && isWordByte(text[end(k)]) {
				t.Errorf("Lex(%q): %v stands next to a word byte", short(text), k)
			}
			if digits := strings.Trim(k.Text, "0123456789") == ""; digits != (k.Kind == api.TokenNumber) {
				t.Errorf("Lex(%q): %v has the wrong kind", short(text), k)
			}
		}
	}
	for _, text := range randomTexts(400) {
		check(text)
	}
	for text := range texts(5, "a", "1", "_", "-", " ", `""`) {
		check(text)
	}
}

// TestP3_5TwoTexts checks texts with a line feed between them.
func TestP3_5TwoTexts(t *testing.T) {
	l := randomTexts(40)
	for _, a := range l {
		for _, b := range l {
			if len(a)+1+len(b) > maxSource {
				continue
			}
			first, second := mustLex(t, a), mustLex(t, b)
			wantTokens(t, a+"\n"+b, append(slices.Clone(first), moved(second, len(a)+1)...)...)
		}
		for _, w := range wrongs {
			wantError(t, a+"\n"+w, api.ErrToken, len(a)+1)
		}
	}
	a := strings.Repeat("a,", 750) + "% 1500 tokens"
	b := strings.Repeat("-> ", 1500)
	wantTokens(t, a+"\n"+b, append(mustLex(t, a), moved(mustLex(t, b), len(a)+1)...)...)
	wantError(t, a+"\n"+b+";", api.ErrLimit, len(a)+1+len(b))
	half := strings.Repeat(" ", 3999) + "a"
	wantTokens(t, half[1:]+"\n"+half, tok("a", 3998), tok("a", 7999))
	wantError(t, half+"\n"+half, api.ErrLimit, 8000)
}

// TestP3_6FirstError cuts texts off before their error, and changes what follows the line of a wrong token.
func TestP3_6FirstError(t *testing.T) {
	wrong, _ := wrongTexts(8 * len(wrongs))
	for _, text := range wrong {
		_, errno, at := lexer.Lex(text)
		if errno != api.ErrToken {
			t.Errorf("Lex(%q): error %d", short(text), errno)
			continue
		}
		mustLex(t, text[:at])
		line := at + len(strings.SplitAfter(text[at:], "\n")[0])
		for _, rest := range []string{"", "\n", "\n;", "\n\"\"", "\n\"", "\n_", "\n%", "\nabc \x00\xff", "\n" + strings.Repeat(";", 3000)} {
			if line+len(rest) <= maxSource {
				wantError(t, text[:line]+rest, api.ErrToken, at)
			}
		}
	}
	for _, p := range []string{";", "a ", `""`} {
		text := strings.Repeat(p, 3000) + "\t%\n" + strings.Repeat(p, 50)
		wantError(t, text, api.ErrLimit, 3000*len(p)+3)
		mustLex(t, text[:3000*len(p)+3])
	}
	long := strings.Repeat("abc\n", 2000) + ";"
	wantError(t, long, api.ErrLimit, 8000)
	mustLex(t, long[:8000])
}

// TestP3_7Beginnings cuts texts off behind each of their tokens.
func TestP3_7Beginnings(t *testing.T) {
	for _, text := range randomTexts(200) {
		tokens := mustLex(t, text)
		for i, k := range tokens {
			wantTokens(t, text[:end(k)], tokens[:i+1]...)
		}
	}
	full := strings.Repeat("->\n", 2500)
	tokens := mustLex(t, full)
	for i, k := range tokens {
		if i%97 == 0 {
			wantTokens(t, full[:end(k)], tokens[:i+1]...)
		}
	}
}

// TestP1EveryText checks that no text makes Lex fail, and that an error comes without tokens and with an offset of the text.
func TestP1EveryText(t *testing.T) {
	r := source()
	check := func(text string) {
		before := strings.Clone(text)
		tokens, errno, at := lexer.Lex(text)
		switch errno {
		case api.OK:
			if at != -1 || len(text) > maxSource || len(tokens) > maxTokens {
				t.Errorf("Lex(%q): %d tokens, OK, %d", short(text), len(tokens), at)
			}
		case api.ErrToken, api.ErrLimit:
			if len(tokens) != 0 || at < 0 || at >= len(text) || at > maxSource || at == maxSource && errno == api.ErrToken {
				t.Errorf("Lex(%q): %d tokens, error %d at %d", short(text), len(tokens), errno, at)
			}
		default:
			t.Errorf("Lex(%q): error %d", short(text), errno)
		}
		if text != before {
			t.Errorf("%q was changed", short(before))
		}
		wantSame(t, text)
	}
	parts := slices.Concat(pieces, wrongs, gaps, []string{"%", "\"", "_", "-", ">", "9", "\n"})
	for range 3000 {
		var b strings.Builder
		for range r.IntN(40) {
			b.WriteString(pick(r, parts))
		}
		check(b.String())
	}
	for range 300 {
		raw := make([]byte, r.IntN(200))
		for i := range raw {
			raw[i] = byte(r.IntN(256))
		}
		check(string(raw))
	}
	for _, p := range parts {
		check(p)
		check(strings.Repeat(p, 7000/len(p)))
		check(strings.Repeat(p, 7900/len(p)+2))
		check(strings.Repeat(p, 100000/len(p)))
	}
}

// TestP3Independence checks that calls do not depend on earlier ones, and that results share no memory.
func TestP3Independence(t *testing.T) {
	l := randomTexts(50)
	wrong, _ := wrongTexts(len(wrongs))
	l = append(l, wrong...)
	for _, text := range l {
		first, errno, at := lexer.Lex(text)
		kept := slices.Clone(first)
		again, e, a := lexer.Lex(string([]byte(text)))
		if !slices.Equal(again, first) || e != errno || a != at {
			t.Errorf("Lex(%q) = %v, %d, %d, and then %v, %d, %d", short(text), first, errno, at, again, e, a)
		}
		for i := range first {
			first[i] = api.Token{Kind: -1, Text: "changed", At: -1}
		}
		third, _, _ := lexer.Lex(text)
		if !slices.Equal(again, kept) || !slices.Equal(third, kept) {
			t.Errorf("Lex(%q): a change of one result changed another one", short(text))
		}
		for _, k := range third {
			if shares(k.Text, text) {
				t.Errorf("Lex(%q): %v shares memory with the text", short(text), k)
			}
		}
	}
}

// shares reports whether a text lies within the memory of another one.
func shares(part, whole string) bool {
	if part == "" || whole == "" {
		return false
	}
	p, w := uintptr(unsafe.Pointer(unsafe.StringData(part))), uintptr(unsafe.Pointer(unsafe.StringData(whole)))
	return p >= w && p < w+uintptr(len(whole))
}
