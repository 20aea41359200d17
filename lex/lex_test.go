package lex_test

import (
	"math/big"
	"math/rand"
	"regexp"
	"slices"
	"strings"
	"testing"

	"truant/api"
	"truant/lex"
)

const (
	least    = -1 << 63
	greatest = 1<<63 - 1
)

func keyList() []string {
	return strings.Fields("type struct func var if else for return print new nil true false int bool read")
}

func signList() []string {
	return strings.Fields("+ - * / % & | ^ << >> == != < <= > >= && || ! = := . , ; ( ) { }")
}

var (
	betweenForm = regexp.MustCompile(`^(?:[ \t\n\r]|//[^\n]*)+`)
	wordForm    = regexp.MustCompile(`^[A-Za-z_][A-Za-z0-9_]*`)
	digitsForm  = regexp.MustCompile(`^[0-9]+`)
)

// longestSign is the longest that stands at the beginning of s, or "".
func longestSign(s string) string {
	best := ""
	for _, sign := range signList() {
		if strings.HasPrefix(s, sign) && len(sign) > len(best) {
			best = sign
		}
	}
	return best
}

func wordKind(text string) int {
	if slices.Contains(keyList(), text) {
		return lex.Key
	}
	return lex.Word
}

func digitsError(digits, behind string) api.Errno {
	n, _ := new(big.Int).SetString(digits, 10)
	switch {
	case len(digits) > 1 && digits[0] == '0', wordForm.MatchString(behind):
		return api.ErrForm
	case !n.IsInt64():
		return api.ErrRange
	}
	return api.OK
}

// plain is what the document asks of Scan, by other means.
func plain(s string) ([]lex.Token, int, api.Errno) {
	if len(s) > 4096 {
		return nil, 4096, api.ErrFull
	}
	var list []lex.Token
	for at := 0; at < len(s); {
		rest := s[at:]
		if between := betweenLength(rest); between > 0 {
			at += between
			continue
		}
		token := lex.Token{At: at}
		if word := wordForm.FindString(rest); word != "" {
			if len(word) > 12 {
				return nil, at, api.ErrFull
			}
			token.Kind, token.Text = wordKind(word), word
		} else if digits := digitsForm.FindString(rest); digits != "" {
			if err := digitsError(digits, rest[len(digits):]); err != api.OK {
				return nil, at, err
			}
			token.Kind, token.Text = lex.Number, digits
		} else if sign := longestSign(rest); sign != "" {
			token.Kind, token.Text = lex.Sign, sign
		} else {
			return nil, at, api.ErrForm
		}
		list = append(list, token)
		at += len(token.Text)
	}
	return list, 0, api.OK
}

// betweenLength makes bytes of 128 and more one that begins no token, since
// the form would take them for characters.
func betweenLength(s string) int {
	ascii := []byte(s)
	for i, c := range ascii {
		if c >= 128 {
			ascii[i] = '#'
		}
	}
	return len(betweenForm.Find(ascii))
}

func mustScan(t *testing.T, s string) []lex.Token {
	t.Helper()
	list, at, err := lex.Scan(s)
	if err != api.OK || at != 0 {
		t.Fatalf("Scan(%q) = %v, place %d, error %d", s, list, at, err)
	}
	return list
}

func wantTokens(t *testing.T, s string, want ...lex.Token) {
	t.Helper()
	if list := mustScan(t, s); !slices.Equal(list, want) {
		t.Errorf("Scan(%q) = %v, want %v", s, list, want)
	}
}

func wantWrong(t *testing.T, s string, at int, want api.Errno) {
	t.Helper()
	list, place, err := lex.Scan(s)
	if len(list) != 0 || place != at || err != want {
		t.Errorf("Scan(%q) = %v, place %d, error %d; want none, %d, %d", s, list, place, err, at, want)
	}
}

// P2.1, ordinary ones: the document's example, and a bit of a source.
func TestScanTells(t *testing.T) {
	wantTokens(t, "x:=a<<1//b",
		lex.Token{Kind: lex.Word, Text: "x", At: 0}, lex.Token{Kind: lex.Sign, Text: ":=", At: 1},
		lex.Token{Kind: lex.Word, Text: "a", At: 3}, lex.Token{Kind: lex.Sign, Text: "<<", At: 4},
		lex.Token{Kind: lex.Number, Text: "1", At: 6})
	wantTokens(t, "func f_1() {\n\treturn 20; }\n",
		lex.Token{Kind: lex.Key, Text: "func", At: 0}, lex.Token{Kind: lex.Word, Text: "f_1", At: 5},
		lex.Token{Kind: lex.Sign, Text: "(", At: 8}, lex.Token{Kind: lex.Sign, Text: ")", At: 9},
		lex.Token{Kind: lex.Sign, Text: "{", At: 11}, lex.Token{Kind: lex.Key, Text: "return", At: 14},
		lex.Token{Kind: lex.Number, Text: "20", At: 21}, lex.Token{Kind: lex.Sign, Text: ";", At: 23},
		lex.Token{Kind: lex.Sign, Text: "}", At: 25})
	wantTokens(t, "")
}

// P2.1: the kinds' numbers, and every key and sign by itself.
func TestScanKinds(t *testing.T) {
	if lex.Word != 1 || lex.Key != 2 || lex.Number != 3 || lex.Sign != 4 {
		t.Error("the kinds' numbers")
	}
	for _, key := range keyList() {
		wantTokens(t, key, lex.Token{Kind: 2, Text: key})
		wantTokens(t, key+"1", lex.Token{Kind: 1, Text: key + "1"})
		wantTokens(t, "_"+key, lex.Token{Kind: 1, Text: "_" + key})
		upper := strings.ToUpper(key[:1]) + key[1:]
		wantTokens(t, upper, lex.Token{Kind: 1, Text: upper})
	}
	for _, sign := range signList() {
		wantTokens(t, sign, lex.Token{Kind: 4, Text: sign})
		wantTokens(t, "a"+sign+"1", lex.Token{Kind: 1, Text: "a"}, lex.Token{Kind: 4, Text: sign, At: 1},
			lex.Token{Kind: 3, Text: "1", At: 1 + len(sign)})
	}
	for _, word := range []string{"a", "z", "A", "Z", "_", "__", "_0", "a9", "Z_z", "x0y", "package", "main", "string"} {
		wantTokens(t, word, lex.Token{Kind: 1, Text: word})
	}
}

// P2.1: the longest token where two could begin.
func TestScanLongest(t *testing.T) {
	for s, want := range map[string]string{
		"<": "<", "<<": "<<", "<=": "<=", "<<=": "<< =", "<<<": "<< <", "<<<<": "<< <<", "<==": "<= =", "< <": "< <", "<>": "< >",
		">": ">", ">>": ">>", ">=": ">=", ">>=": ">> =", ">>>": ">> >", ">==": ">= =", "><": "> <",
		"=": "=", "==": "==", "===": "== =", "====": "== ==", "= =": "= =", "=<": "= <", "=!": "= !", "=>": "= >",
		"!": "!", "!=": "!=", "!!": "! !", "!==": "!= =", "!!=": "! !=", "! =": "! =",
		"&": "&", "&&": "&&", "&&&": "&& &", "&|": "& |", "& &": "& &",
		"|": "|", "||": "||", "|||": "|| |", "|&": "| &",
		":=": ":=", ":==": ":= =", ":=:=": ":= :=",
		"/": "/", "/ /": "/ /", "/*": "/ *", "+=": "+ =", "++": "+ +", "--1": "- - 1", "^=": "^ =", "%=": "% =",
		"1<2": "1 < 2", "1.5": "1 . 5", "1..2": "1 . . 2", "x.y": "x . y", "0-0": "0 - 0", "0": "0", "10": "10", "-1": "- 1",
		"if1": "if1", "iff": "iff", "if(": "if (", "newnew": "newnew", "a1b2": "a1b2", "true false": "true false",
	} {
		if got := lex.Join(mustScan(t, s)); got != want {
			t.Errorf("Scan(%q): %q, want %q", s, got, want)
		}
	}
}

// P2.1: what stands between tokens.
func TestScanBetween(t *testing.T) {
	for s, want := range map[string]string{
		" ": "", "\t": "", "\n": "", "\r": "", " \t\r\n": "", "\r\n\r\n": "",
		"a b": "a b", "a\tb": "a b", "a\nb": "a b", "a\rb": "a b", "\ta\n": "a",
		"//": "", "// all": "", "//\n": "", "//\n//": "", "///": "", "//a//b": "", "a//b": "a", "a//b\nc": "a c", "a//\nc": "a c",
		"//b\rc": "", "//b\r\nc": "c", "// 00 1x # \x80\xff\x00 abcdefghijklmnop 99999999999999999999\n;": ";",
		"a/ /b": "a / / b", "a ///b": "a", "a/\n/b": "a / / b", "1//x": "1", "abc//d": "abc", "<//\n<": "< <",
	} {
		if got := lex.Join(mustScan(t, s)); got != want {
			t.Errorf("Scan(%q): %q, want %q", s, got, want)
		}
	}
}

// P2.1: a source of 4096 bytes, and one of 4097.
func TestScanTextLimit(t *testing.T) {
	if list := mustScan(t, strings.Repeat(" ", 4096)); len(list) != 0 {
		t.Error(list)
	}
	if list := mustScan(t, strings.Repeat(";", 4096)); len(list) != 4096 || list[4095].At != 4095 {
		t.Error(len(list))
	}
	if list := mustScan(t, strings.Repeat(" ", 4095)+"x"); len(list) != 1 || list[0] != (lex.Token{Kind: 1, Text: "x", At: 4095}) {
		t.Error(list)
	}
	wantWrong(t, strings.Repeat(" ", 4095)+"#", 4095, api.ErrForm)
	for _, s := range []string{
		strings.Repeat(" ", 4097), strings.Repeat(";", 4097), "#" + strings.Repeat(" ", 4096),
		strings.Repeat("a", 4097), strings.Repeat("9", 5000), "//" + strings.Repeat("x", 100000),
	} {
		wantWrong(t, s, 4096, api.ErrFull)
	}
}

// P2.1: a word of 12 bytes, and longer ones.
func TestScanWordLimit(t *testing.T) {
	wantTokens(t, "abcdefghijkl", lex.Token{Kind: 1, Text: "abcdefghijkl"})
	wantTokens(t, " _23456789012 ", lex.Token{Kind: 1, Text: "_23456789012", At: 1})
	wantWrong(t, "abcdefghijklm", 0, api.ErrFull)
	wantWrong(t, "a abcdefghijkl1", 2, api.ErrFull)
	wantWrong(t, "abcdefghijkl_", 0, api.ErrFull)
	wantWrong(t, ";"+strings.Repeat("z", 4095), 1, api.ErrFull)
	if list := mustScan(t, "abcdefghijkl abcdefghijkl.abcdefghijkl"); len(list) != 4 {
		t.Error(list)
	}
}

// P2.1: 2^63 - 1, 2^63, and longer digits.
func TestScanNumberLimit(t *testing.T) {
	for _, s := range []string{"0", "7", "10", "1000000000000000000", "9223372036854775806", "9223372036854775807"} {
		wantTokens(t, s, lex.Token{Kind: 3, Text: s})
	}
	for _, s := range []string{
		"9223372036854775808", "9223372036854775810", "9999999999999999999", "10000000000000000000", "18446744073709551616",
		"18446744073709551617", "99999999999999999999", "1" + strings.Repeat("0", 4095),
	} {
		wantWrong(t, s, 0, api.ErrRange)
	}
	wantWrong(t, "x = 9223372036854775808;", 4, api.ErrRange)
	wantWrong(t, "-9223372036854775808", 1, api.ErrRange)
	wantWrong(t, "9223372036854775808#", 0, api.ErrRange)
	wantWrong(t, "9223372036854775808 1x", 0, api.ErrRange)
}

// P2.1: every byte with which no token begins; P1 of the whole.
func TestScanBytes(t *testing.T) {
	begins := "+-*/%&|^<>!=.,;(){}_"
	for c := range 256 {
		s := string([]byte{byte(c)})
		switch {
		case strings.Contains(" \t\n\r", s):
			wantTokens(t, s)
		case c >= '0' && c <= '9':
			wantTokens(t, s, lex.Token{Kind: 3, Text: s})
		case c >= 'a' && c <= 'z' || c >= 'A' && c <= 'Z' || c == '_':
			wantTokens(t, s, lex.Token{Kind: 1, Text: s})
		case strings.Contains(begins, s):
			wantTokens(t, s, lex.Token{Kind: 4, Text: s})
		default:
			wantWrong(t, s, 0, api.ErrForm)
			wantWrong(t, "a "+s, 2, api.ErrForm)
			wantWrong(t, "ab1"+s+"c", 3, api.ErrForm)
			wantWrong(t, "12"+s, 2, api.ErrForm)
			wantWrong(t, "<"+s, 1, api.ErrForm)
		}
	}
	wantWrong(t, "é", 0, api.ErrForm)
	wantWrong(t, "aé", 1, api.ErrForm)
	wantWrong(t, "1٣", 1, api.ErrForm)
	wantWrong(t, ": =", 0, api.ErrForm)
	wantWrong(t, "a:b", 1, api.ErrForm)
	wantWrong(t, "::=", 0, api.ErrForm)
	wantWrong(t, "://\n=", 0, api.ErrForm)
	wantWrong(t, "\u00a0", 0, api.ErrForm)
}

// P2.1: numbers of a wrong form.
func TestScanNumberForm(t *testing.T) {
	for _, s := range []string{
		"00", "01", "007", "000", "1x", "0x1", "1_", "1_000", "0_", "12abc", "1e5", "0a", "00x", "9Z",
		"99999999999999999999x", "099999999999999999999", "99999999999999999999_", "9223372036854775808a",
		"0" + strings.Repeat("9", 4095), strings.Repeat("9", 4095) + "a", "1abcdefghijklm",
	} {
		wantWrong(t, s, 0, api.ErrForm)
		if len(s) < 4000 {
			wantWrong(t, "a\n= "+s+" ;", 4, api.ErrForm)
		}
	}
	wantTokens(t, "0 0", lex.Token{Kind: 3, Text: "0"}, lex.Token{Kind: 3, Text: "0", At: 2})
	wantTokens(t, "1 x", lex.Token{Kind: 3, Text: "1"}, lex.Token{Kind: 1, Text: "x", At: 2})
}

// P2.1: of several faults the first one counts, whatever its error.
func TestScanFirstFault(t *testing.T) {
	wrong := []struct {
		s   string
		err api.Errno
	}{
		{"#", api.ErrForm}, {"00", api.ErrForm}, {"1x", api.ErrForm}, {"9223372036854775808", api.ErrRange},
		{"abcdefghijklm", api.ErrFull}, {":", api.ErrForm}, {"\xff", api.ErrForm},
	}
	for _, one := range wrong {
		for _, other := range wrong {
			wantWrong(t, "print "+one.s+" "+other.s, 6, one.err)
			wantWrong(t, one.s+";"+other.s+"\n", 0, one.err)
		}
		wantWrong(t, one.s+strings.Repeat(" ", 4096), 4096, api.ErrFull)
	}
}

// P2.2: words and keys.
func TestIsWordIsKey(t *testing.T) {
	for _, key := range keyList() {
		if lex.IsWord(key) || !lex.IsKey(key) {
			t.Error(key)
		}
		for _, s := range []string{key + "_", "x" + key, strings.ToUpper(key), key[:1] + "9"} {
			if !lex.IsWord(s) || lex.IsKey(s) {
				t.Error(s)
			}
		}
		if lex.IsKey(key+" ") || lex.IsWord(key+" ") || lex.IsKey(" "+key) || lex.IsKey(key[:len(key)-1]) {
			t.Error(key)
		}
	}
	for _, s := range []string{"a", "Z", "_", "x9", "abcdefghijkl", "_12345678901", "main"} {
		if !lex.IsWord(s) || lex.IsKey(s) {
			t.Error(s)
		}
	}
	for _, s := range []string{
		"", "0", "9a", " ", " a", "a ", "a b", "a\n", "abcdefghijklm", "a-b", "é", "aé", "a\x80", "\x00", "a//", "//", "+", ":=", "a.b",
		strings.Repeat("a", 5000),
	} {
		if lex.IsWord(s) || lex.IsKey(s) {
			t.Errorf("%q", s)
		}
	}
	for c := range 256 {
		s := string([]byte{byte(c)})
		letter := c >= 'a' && c <= 'z' || c >= 'A' && c <= 'Z' || c == '_'
		digit := c >= '0' && c <= '9'
		if lex.IsWord(s) != letter || lex.IsWord("x"+s) != (letter || digit) || lex.IsWord("x"+s+"y") != (letter || digit) {
			t.Errorf("%q", s)
		}
	}
}

// P2.2: Join takes any list, and takes the texts as they are.
func TestJoin(t *testing.T) {
	for want, list := range map[string][]lex.Token{
		"":         nil,
		"a":        {{Text: "a"}},
		"a b":      {{Text: "a"}, {Text: "b"}},
		"b a b":    {{Text: "b", At: 9, Kind: -1}, {Text: "a", At: -5, Kind: 77}, {Text: "b"}},
		"  ":       {{}, {}, {}},
		"a b  \n#": {{Text: "a b"}, {}, {Text: "\n#"}},
	} {
		if got := lex.Join(list); got != want {
			t.Errorf("Join(%v) = %q, want %q", list, got, want)
		}
	}
	if lex.Join([]lex.Token{}) != "" {
		t.Error("nothing")
	}
	list := []lex.Token{{Kind: 1, Text: "a"}, {Kind: 4, Text: "=", At: 1}}
	kept := slices.Clone(list)
	if lex.Join(list) != "a =" || !slices.Equal(list, kept) {
		t.Error(list)
	}
}

// P2.2: Line by the document's words, at every place, and beyond both ends.
func TestLine(t *testing.T) {
	for _, x := range []struct {
		s                string
		at, line, column int
	}{
		{"", 0, 1, 1}, {"ab", 0, 1, 1}, {"ab", 1, 1, 2}, {"ab", 2, 1, 3}, {"\n", 0, 1, 1}, {"\n", 1, 2, 1},
		{"ab\ncd", 2, 1, 3}, {"ab\ncd", 3, 2, 1}, {"ab\ncd", 5, 2, 3}, {"ab\n\ncd", 4, 3, 1}, {"ab\n\ncd", 6, 3, 3},
		{"a\r\nb", 2, 1, 3}, {"a\rb", 2, 1, 3}, {"é\x80", 3, 1, 4},
		{"", 1, 0, 0}, {"", -1, 0, 0}, {"ab", 3, 0, 0}, {"ab\n", 4, 0, 0}, {"ab", -1, 0, 0}, {"ab", least, 0, 0}, {"ab", greatest, 0, 0},
	} {
		if line, column := lex.Line(x.s, x.at); line != x.line || column != x.column {
			t.Errorf("Line(%q, %d) = %d, %d; want %d, %d", x.s, x.at, line, column, x.line, x.column)
		}
	}
	long := strings.Repeat("ab\nc\n\n", 2000)
	line, column := 1, 1
	for at := range len(long) {
		if a, b := lex.Line(long, at); a != line || b != column {
			t.Fatal(at, a, b, line, column)
		}
		column++
		if long[at] == '\n' {
			line, column = line+1, 1
		}
	}
}

// hold checks P2.1 against plain, and P2.3, for any s.
func hold(t *testing.T, s string) {
	t.Helper()
	list, at, err := lex.Scan(s)
	wantList, wantAt, want := plain(s)
	if !slices.Equal(list, wantList) || at != wantAt || err != want {
		t.Fatalf("Scan(%q) = %v, %d, %d; want %v, %d, %d", s, list, at, err, wantList, wantAt, want)
	}
	if err != api.OK {
		return
	}
	end := 0
	for _, token := range list {
		if token.At < end || !strings.HasPrefix(s[token.At:], token.Text) || token.Text == "" {
			t.Fatalf("%q: %v", s, token)
		}
		if between, _, err := lex.Scan(s[end:token.At]); len(between) != 0 || err != api.OK {
			t.Fatalf("%q: between %v", s, between)
		}
		end = token.At + len(token.Text)
	}
	rejoin(t, list)
}

// rejoin checks that tokens joined are scanned as the same texts.
func rejoin(t *testing.T, list []lex.Token) {
	t.Helper()
	joined := lex.Join(list)
	again, at, err := lex.Scan(joined)
	if len(joined) > 4096 {
		if len(again) != 0 || at != 4096 || err != api.ErrFull {
			t.Fatalf("%q: %d, %d", joined, at, err)
		}
		return
	}
	same := func(a, b lex.Token) bool { return a.Kind == b.Kind && a.Text == b.Text }
	if err != api.OK || !slices.EqualFunc(list, again, same) {
		t.Fatalf("%q: %v, want %v", joined, again, list)
	}
}

// pieces are put in rows at random, so that each meets each.
func pieces() []string {
	list := append(keyList(), signList()...)
	return append(list, "a", "x1", "_", "abcdefghijkl", "abcdefghijklm", "0", "1", "9", "00", "9223372036854775807", "9223372036854775808",
		" ", " ", " ", "\n", "\n", "\t", "\r", "//", "// b ", ":", "#", "\x80", "\xff", "é", "\"", "\x00")
}

// P2.1, P2.3: rows of pieces, short and long, with few faults and with many.
func TestScanAgainstPlain(t *testing.T) {
	random := rand.New(rand.NewSource(2))
	all := pieces()
	for round := range 30000 {
		var s strings.Builder
		for range random.Intn(12) {
			s.WriteString(all[random.Intn(len(all))])
			if round%2 == 0 {
				s.WriteByte(" \n"[random.Intn(2)])
			}
		}
		hold(t, s.String())
	}
	for range 3000 {
		bytes := make([]byte, random.Intn(8))
		for i := range bytes {
			bytes[i] = byte(random.Intn(256))
		}
		hold(t, string(bytes))
	}
	for _, length := range []int{2047, 2048, 2049, 4095, 4096, 4097} {
		hold(t, strings.Repeat(";", length))
		hold(t, strings.Repeat("a\n", length/2))
	}
}

// P2.1: an answer is new memory, and a call hangs on its argument alone.
func TestScanFresh(t *testing.T) {
	const s = "x := new(T); // y\nprint(x.n + 1);"
	first := mustScan(t, s)
	kept := slices.Clone(first)
	for i := range first {
		first[i] = lex.Token{}
	}
	lex.Scan("#")
	if again := mustScan(t, s); !slices.Equal(again, kept) {
		t.Error(again)
	}
}

func FuzzScan(f *testing.F) {
	for _, piece := range pieces() {
		f.Add(piece + "a<" + piece)
	}
	f.Fuzz(hold)
}
