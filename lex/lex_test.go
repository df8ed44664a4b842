package lex

import (
	"fmt"
	"math"
	"math/big"
	"math/rand"
	"regexp"
	"slices"
	"strings"
	"testing"

	"pantler/api"
)

// letters are all the bytes of tokens, as the chapter lists them.
const letters = "abcdefghijklmnopqrstuvwxyzABCDEFGHIJKLMNOPQRSTUVWXYZ0123456789!#$%&'*+-.^_`|~"

// modelAll tells whether ok holds of each byte of s.
func modelAll(s string, ok func(c byte) bool) bool {
	return !slices.ContainsFunc([]byte(s), func(c byte) bool { return !ok(c) })
}

// modelToken is Token by the chapter's words.
func modelToken(s string) bool {
	return len(s) >= 1 && modelAll(s, func(c byte) bool { return strings.IndexByte(letters, c) >= 0 })
}

// modelValue is Value by the chapter's words.
func modelValue(s string) bool {
	return modelAll(s, func(c byte) bool { return c >= 32 && c <= 126 || c >= 128 || c == 9 })
}

// modelTrim is Trim by the chapter's words.
func modelTrim(s string) string { return strings.Trim(s, " \t") }

// modelLower is Lower by the chapter's words.
func modelLower(s string) string {
	for i := range 26 {
		s = strings.ReplaceAll(s, string(rune('A'+i)), string(rune('a'+i)))
	}
	return s
}

// modelNumber is Number by the chapter's words.
func modelNumber(s string, most int64) (int64, bool) {
	if len(s) < 1 || !modelAll(s, func(c byte) bool { return strings.IndexByte("0123456789", c) >= 0 }) {
		return 0, false
	}
	n, _ := new(big.Int).SetString(s, 10)
	if n.Cmp(big.NewInt(most)) > 0 {
		return 0, false
	}
	return n.Int64(), true
}

// modelItems is Items by the chapter's words.
func modelItems(s string) []string {
	var items []string
	for _, part := range strings.Split(s, ",") {
		if part = modelTrim(part); part != "" {
			items = append(items, part)
		}
	}
	return items
}

// told is what Line tells.
type told struct {
	line, rest string
	found      bool
	e          api.Errno
}

func (a told) String() string {
	return fmt.Sprintf("%.80q and %.80q, %t, %d", a.line, a.rest, a.found, a.e)
}

// alone tells whether in s, but for its very end, a 10 stands without a 13 just ahead of it, or a 13 without a 10 just behind it.
func alone(s string) bool {
	for i := range len(s) {
		if s[i] == 10 && (i == 0 || s[i-1] != 13) || s[i] == 13 && i+1 < len(s) && s[i+1] != 10 {
			return true
		}
	}
	return false
}

// modelLine is Line by the chapter's words.
func modelLine(s string) told {
	line, rest, found := strings.Cut(s, "\r\n")
	switch {
	case !found && alone(s), found && alone(line+"\r\n"):
		return told{e: api.ErrForm}
	case !found:
		return told{rest: s}
	}
	return told{line: line, rest: rest, found: true}
}

func tell(s string) told {
	line, rest, found, e := Line(s)
	return told{line, rest, found, e}
}

// checkLine holds Line against the model, and its answer against what follows of it.
func checkLine(t *testing.T, s string) {
	t.Helper()
	got := tell(s)
	if want := modelLine(s); got != want {
		t.Fatalf("Line(%.200q): %v; not %v", s, got, want)
	}
	if got.found && (got.line+"\r\n"+got.rest != s || strings.ContainsAny(got.line, "\r\n")) {
		t.Fatalf("Line(%.200q): %v are not the text again", s, got)
	}
}

// eachText calls f with every text of at most most pieces.
func eachText(pieces []string, most int, f func(string)) {
	var from func(s string, left int)
	from = func(s string, left int) {
		f(s)
		if left == 0 {
			return
		}
		for _, p := range pieces {
			from(s+p, left-1)
		}
	}
	from("", most)
}

// eachByte calls f with every byte.
func eachByte(f func(c byte, s string)) {
	for c := range 256 {
		f(byte(c), string([]byte{byte(c)}))
	}
}

// someText is a text of at most most of the bytes of from.
func someText(r *rand.Rand, from string, most int) string {
	b := make([]byte, r.Intn(most+1))
	for i := range b {
		b[i] = from[r.Intn(len(from))]
	}
	return string(b)
}

func allBytes() string {
	var b strings.Builder
	for c := range 256 {
		b.WriteByte(byte(c))
	}
	return b.String()
}

func TestP231Token(t *testing.T) {
	for _, s := range []string{"a", "GET", "host", "If-None-Match", "0", "9z", "!", "~", "|", letters, strings.Repeat("x", 1<<20)} {
		if !Token(s) {
			t.Errorf("Token(%.40q) is false", s)
		}
	}
	for _, s := range []string{"", " ", "a b", " a", "a ", "a\t", "a:", ":a", "a,b", "a=b", "a/b", "(a)", "\"a\"", "a;", "[a]", "{a}", "a@b", "a\\b", "a?", "<a>", "a\x00", "a\r\n", "\u00e4", "a\u0660", "\u212a", "\xff", strings.Repeat("x", 1<<20) + " "} {
		if Token(s) {
			t.Errorf("Token(%.40q) is true", s)
		}
	}
}

func TestP231TokenOfEachByte(t *testing.T) {
	eachByte(func(c byte, s string) {
		want := strings.IndexByte(letters, c) >= 0
		for _, text := range []string{s, s + s, "a" + s, s + "a", "a" + s + "a"} {
			if Token(text) != want || modelToken(text) != want {
				t.Errorf("Token(%q) is not %t", text, want)
			}
		}
	})
	if len(letters) != 26+26+10+15 {
		t.Errorf("the test has %d letters", len(letters))
	}
}

func TestP231Value(t *testing.T) {
	for _, s := range []string{"", " ", "\t", "a b", " a\t", "a:b,c;d=\"e\"", "\u00e4\u20ac", "\x80\xff", strings.Repeat("x ", 1<<19)} {
		if !Value(s) {
			t.Errorf("Value(%.40q) is false", s)
		}
	}
	for _, s := range []string{"\x00", "a\x00", "\r", "\n", "a\r\n", "a\r\n b", "\x7f", "a\x7fb", "\x1f", "\v", "\f", "\b", strings.Repeat("x ", 1<<19) + "\n"} {
		if Value(s) {
			t.Errorf("Value(%.40q) is true", s)
		}
	}
}

func TestP231ValueOfEachByte(t *testing.T) {
	eachByte(func(c byte, s string) {
		want := c == 9 || c >= 32 && c != 127
		for _, text := range []string{s, s + s, "a" + s, s + "a", "a" + s + "a"} {
			if Value(text) != want || modelValue(text) != want {
				t.Errorf("Value(%q) is not %t", text, want)
			}
		}
	})
}

func TestP231Trim(t *testing.T) {
	for s, want := range map[string]string{
		"": "", " ": "", "\t": "", " \t \t\t ": "", "a": "a", " a": "a", "a ": "a", "\ta\t": "a", " \t a \t b \t ": "a \t b", "a  b": "a  b",
		"\r\n a \r\n": "\r\n a \r\n", "\va\f": "\va\f", " \u00a0a\u2003 ": "\u00a0a\u2003", " \x00 ": "\x00", "\xa0 ": "\xa0", " \x85": "\x85",
	} {
		if got := Trim(s); got != want {
			t.Errorf("Trim(%q): %q, not %q", s, got, want)
		}
	}
	eachByte(func(c byte, s string) {
		for _, text := range []string{s, s + s, s + "a", "a" + s, s + "a" + s, "a" + s + "a", " " + s + "\t"} {
			want := modelTrim(text)
			if c != 32 && c != 9 && text[0] != ' ' && want != text {
				t.Fatalf("the model of %q: %q", text, want)
			}
			if got := Trim(text); got != want {
				t.Errorf("Trim(%q): %q, not %q", text, got, want)
			}
		}
	})
	eachText([]string{" ", "\t", "a", "\n", "\xff"}, 6, func(s string) {
		if got, want := Trim(s), modelTrim(s); got != want {
			t.Fatalf("Trim(%q): %q, not %q", s, got, want)
		}
	})
	blanks := strings.Repeat(" \t", 1<<19)
	if Trim(blanks) != "" || Trim(blanks+"a"+blanks) != "a" || len(Trim("a"+blanks+"a")) != 2+1<<20 {
		t.Error("Trim of many blanks")
	}
}

func TestP231Lower(t *testing.T) {
	for s, want := range map[string]string{
		"": "", "a": "a", "A": "a", "Z": "z", "If-None-Match": "if-none-match", "HTTP/1.1 \t\r\n": "http/1.1 \t\r\n", "@[`{": "@[`{",
		"\u00c4\u00d6": "\u00c4\u00d6", "\u212a\u0130": "\u212a\u0130", "\xc1\xdaA\xff": "\xc1\xdaa\xff", "A\x00B": "a\x00b",
	} {
		if got := Lower(s); got != want {
			t.Errorf("Lower(%q): %q, not %q", s, got, want)
		}
	}
	eachByte(func(c byte, s string) {
		want := s
		if at := strings.IndexByte("ABCDEFGHIJKLMNOPQRSTUVWXYZ", c); at >= 0 {
			want = "abcdefghijklmnopqrstuvwxyz"[at : at+1]
		}
		for _, around := range []string{"%s", "a%s", "%sa", "\x80%s\x80", "%[1]s%[1]s"} {
			if got, all := Lower(fmt.Sprintf(around, s)), fmt.Sprintf(around, want); got != all {
				t.Errorf("Lower of %q in %q: %q, not %q", s, around, got, all)
			}
		}
	})
	if Lower(strings.Repeat("aB", 1<<19)) != strings.Repeat("ab", 1<<19) {
		t.Error("Lower of many letters")
	}
}

func checkNumber(t *testing.T, s string, most int64) {
	t.Helper()
	n, ok := Number(s, most)
	if want, is := modelNumber(s, most); n != want || ok != is {
		t.Fatalf("Number(%.80q, %d): %d, %t; not %d, %t", s, most, n, ok, want, is)
	}
}

func TestP231Number(t *testing.T) {
	for _, c := range []struct {
		s    string
		most int64
		n    int64
		ok   bool
	}{
		{"0", 0, 0, true}, {"1", 0, 0, false}, {"0", -1, 0, false}, {"00", 0, 0, true}, {"", 0, 0, false}, {"", 9, 0, false},
		{"7", 7, 7, true}, {"8", 7, 0, false}, {"10", 10, 10, true}, {"11", 10, 0, false}, {"010", 10, 10, true}, {"99", 100, 99, true},
		{"1099511627776", 1 << 40, 1 << 40, true}, {"1099511627777", 1 << 40, 0, false},
		{"9223372036854775807", math.MaxInt64, math.MaxInt64, true}, {"9223372036854775806", math.MaxInt64 - 1, math.MaxInt64 - 1, true},
		{"9223372036854775807", math.MaxInt64 - 1, 0, false}, {"9223372036854775808", math.MaxInt64, 0, false},
		{"18446744073709551616", math.MaxInt64, 0, false}, {"18446744073709551617", 5, 0, false}, {"0", math.MinInt64, 0, false},
		{"-0", 9, 0, false}, {"+1", 9, 0, false}, {"-1", 9, 0, false}, {" 1", 9, 0, false}, {"1 ", 9, 0, false}, {"1_0", 99, 0, false},
		{"0x1", 99, 0, false}, {"1.0", 99, 0, false}, {"1e1", 99, 0, false}, {"\u0661", 99, 0, false}, {"1\x00", 99, 0, false}, {"/", 99, 0, false},
		{":", 99, 0, false}, {"\xb1", 99, 0, false},
	} {
		if n, ok := Number(c.s, c.most); n != c.n || ok != c.ok {
			t.Errorf("Number(%q, %d): %d, %t; not %d, %t", c.s, c.most, n, ok, c.n, c.ok)
		}
	}
	zeros := strings.Repeat("0", 1<<20)
	for s, want := range map[string]int64{zeros: 0, zeros + "5": 5, zeros + "9223372036854775807": math.MaxInt64} {
		if n, ok := Number(s, math.MaxInt64); n != want || !ok {
			t.Errorf("Number of many zeros: %d, %t; not %d", n, ok, want)
		}
	}
	for _, s := range []string{strings.Repeat("9", 1<<20), "1" + zeros, zeros + "x", zeros + "8"} {
		if n, ok := Number(s, 7); n != 0 || ok {
			t.Errorf("Number(%.10q..): %d, %t", s, n, ok)
		}
	}
}

func TestP231NumberOfEachByte(t *testing.T) {
	eachByte(func(c byte, s string) {
		for _, text := range []string{s, "0" + s, s + "0", "1" + s + "2"} {
			checkNumber(t, text, math.MaxInt64)
			checkNumber(t, text, 12)
		}
	})
}

func TestP231NumberByTheModel(t *testing.T) {
	eachText([]string{"0", "1", "5", "9", "-", " "}, 4, func(s string) {
		for most := range int64(120) {
			checkNumber(t, s, most-1)
		}
	})
	for n := range int64(1200) {
		for most := range int64(1200) {
			if got, ok := Number(fmt.Sprint(n), most); ok != (n <= most) || ok && got != n || !ok && got != 0 {
				t.Fatalf("Number(%d, %d): %d, %t", n, most, got, ok)
			}
		}
	}
	ends := []int64{math.MinInt64, -1, 0, 1, 9, 10, math.MaxInt64/10 - 1, math.MaxInt64 / 10, math.MaxInt64/10 + 1, math.MaxInt64 - 8, math.MaxInt64 - 1, math.MaxInt64}
	for _, most := range ends {
		for _, near := range ends {
			for d := int64(-25); d <= 25; d++ {
				n := new(big.Int).Add(big.NewInt(near), big.NewInt(d))
				checkNumber(t, n.String(), most)
				checkNumber(t, "0"+n.String(), most)
				checkNumber(t, n.String()+"0", most)
			}
		}
	}
	r := rand.New(rand.NewSource(231))
	for range 100000 {
		checkNumber(t, someText(r, "0123456789", 21), r.Int63()>>r.Intn(63))
	}
}

func TestP232Line(t *testing.T) {
	for s, want := range map[string]told{
		"":                                {},
		"a":                               {rest: "a"},
		"a\r":                             {rest: "a\r"},
		"\r":                              {rest: "\r"},
		"\r\n":                            {found: true},
		"\r\n\r\n":                        {rest: "\r\n", found: true},
		"a\r\n":                           {line: "a", found: true},
		"GET / HTTP/1.1\r\nHost: a\r\n":   {line: "GET / HTTP/1.1", rest: "Host: a\r\n", found: true},
		"a\r\n\n":                         {line: "a", rest: "\n", found: true},
		"a\r\nb\rc\nd":                    {line: "a", rest: "b\rc\nd", found: true},
		"a\r\n\r":                         {line: "a", rest: "\r", found: true},
		"a\r\n\n\r\n":                     {line: "a", rest: "\n\r\n", found: true},
		"\x00\x7f\xff\t \v\r\nb":          {line: "\x00\x7f\xff\t \v", rest: "b", found: true},
		"\u0085\u2028\r\n\u2029":          {line: "\u0085\u2028", rest: "\u2029", found: true},
		"\n":                              {e: api.ErrForm},
		"a\n":                             {e: api.ErrForm},
		"a\nb":                            {e: api.ErrForm},
		"a\nb\r\n":                        {e: api.ErrForm},
		"\n\r\n":                          {e: api.ErrForm},
		"\n\r":                            {e: api.ErrForm},
		"\ra":                             {e: api.ErrForm},
		"a\rb\r\n":                        {e: api.ErrForm},
		"\r\r":                            {e: api.ErrForm},
		"\r\r\n":                          {e: api.ErrForm},
		"a\r\r\n":                         {e: api.ErrForm},
		"a\rb\r":                          {e: api.ErrForm},
		"a\r\x00":                         {e: api.ErrForm},
		"GET / HTTP/1.1\nHost: a\r\n":     {e: api.ErrForm},
		"a\r \n":                          {e: api.ErrForm},
		strings.Repeat("x", 1<<20) + "\n": {e: api.ErrForm},
	} {
		if got := tell(s); got != want || modelLine(s) != want {
			t.Errorf("Line(%.40q): %v, by the model %v; not %v", s, got, modelLine(s), want)
		}
	}
	long := strings.Repeat("x", 1<<20)
	for s, want := range map[string]told{
		long: {rest: long}, long + "\r": {rest: long + "\r"}, long + "\r\n" + long: {line: long, rest: long, found: true},
	} {
		if tell(s) != want {
			t.Errorf("Line of %d bytes is wrong", len(s))
		}
	}
}

func TestP232LineByTheModel(t *testing.T) {
	eachText([]string{"\r", "\n", "a"}, 9, func(s string) { checkLine(t, s) })
	eachText([]string{"\r\n", "\r", "\n", "\x00", "\u2028"}, 6, func(s string) { checkLine(t, s) })
	eachByte(func(_ byte, s string) {
		for _, around := range []string{"%s", "a%s", "%s\n", "\r%s", "\r%s\n", "%s\r", "%s\r\n", "\r\n%s", "a%[1]s%[1]s\r\n%[1]s"} {
			checkLine(t, fmt.Sprintf(around, s))
		}
	})
	r := rand.New(rand.NewSource(232))
	for range 50000 {
		checkLine(t, someText(r, allBytes(), 40)+"\r\n"+someText(r, "ab\r\n", 10))
	}
}

// fieldForm is a field by the chapter's words.
var fieldForm = regexp.MustCompile("^([a-zA-Z0-9!#$%&'*+.^_`|~-]+):((?s:.*))$")

// checkField holds Field against the chapter's words.
func checkField(t *testing.T, line string) {
	t.Helper()
	name, value, e := Field(line)
	parts := fieldForm.FindStringSubmatch(line)
	if parts == nil || !modelValue(parts[2]) {
		if name != "" || value != "" || e != api.ErrForm {
			t.Fatalf("Field(%.80q): %.80q, %.80q, %d", line, name, value, e)
		}
		return
	}
	if name != modelLower(parts[1]) || value != modelTrim(parts[2]) || e != api.OK {
		t.Fatalf("Field(%.80q): %.80q, %.80q, %d", line, name, value, e)
	}
}

func TestP233Field(t *testing.T) {
	for line, want := range map[string][2]string{
		"Host:  a b ": {"host", "a b"}, "a:b": {"a", "b"}, "a:": {"a", ""}, "a: \t ": {"a", ""}, "A:\tB\t": {"a", "B"}, "a::": {"a", ":"},
		"Host: a:80": {"host", "a:80"}, "If-Match: \"v1-5\", W/\"x\"": {"if-match", "\"v1-5\", W/\"x\""}, "~!: \xff": {"~!", "\xff"},
		"CONTENT-LENGTH:0": {"content-length", "0"}, "a: b: c": {"a", "b: c"}, "a:b\tc": {"a", "b\tc"}, "0:\u00c4": {"0", "\u00c4"},
	} {
		name, value, e := Field(line)
		if name != want[0] || value != want[1] || e != api.OK {
			t.Errorf("Field(%q): %q, %q, %d; not %q", line, name, value, e, want)
		}
		checkField(t, line)
	}
	for _, line := range []string{
		"", ":", "a", "a b", ": b", " a: b", "a : b", "a\t: b", "\ta: b", "a b: c", "a,b: c", "\u00e4: b", "(a): b", "a: \x01", "a: b\x00", "a: \x7f", "a: b\r", "a: b\r\n", "a: b\nc: d",
		"a\r:b", "a;:b", "a=b", "\"a\": b", "a\x00: b", " : b",
	} {
		if name, value, e := Field(line); name != "" || value != "" || e != api.ErrForm {
			t.Errorf("Field(%q): %q, %q, %d", line, name, value, e)
		}
		checkField(t, line)
	}
	long := strings.Repeat("X", 1<<20)
	if name, value, e := Field(long + ": " + long + " "); name != strings.Repeat("x", 1<<20) || value != long || e != api.OK {
		t.Error("Field of a long line")
	}
}

func TestP233FieldByTheModel(t *testing.T) {
	eachText([]string{"a", "B", ":", " ", "\t", "\n", ","}, 6, func(s string) { checkField(t, s) })
	eachByte(func(_ byte, s string) {
		for _, around := range []string{"%s", "%s:b", "A%s:b", "%sA:b", "a%sb", "a:%s", "a:b%s", "a:%sb", "a: b%sc ", "%[1]s:%[1]s"} {
			checkField(t, fmt.Sprintf(around, s))
		}
	})
}

func TestP233Items(t *testing.T) {
	for s, want := range map[string][]string{
		"": nil, " ": nil, ",": nil, " , ,\t,": nil, "a": {"a"}, " a ": {"a"}, "a,b": {"a", "b"}, " a ,, b\t, ": {"a", "b"}, ",a": {"a"}, "a,": {"a"},
		"close, Keep-Alive": {"close", "Keep-Alive"}, "a b,c": {"a b", "c"}, "a;b=c , d": {"a;b=c", "d"}, "\"a,b\"": {"\"a", "b\""},
		"0-0,-1": {"0-0", "-1"}, "b,a,b": {"b", "a", "b"}, "\t\ta\t\t,\t\tb": {"a", "b"}, "a\r\n,\x00": {"a\r\n", "\x00"}, "\u00e4,\u3001b": {"\u00e4", "\u3001b"},
		"*": {"*"}, "a,\u00a0": {"a", "\u00a0"},
	} {
		if got := Items(s); !slices.Equal(got, want) || !slices.Equal(modelItems(s), want) {
			t.Errorf("Items(%q): %q, not %q", s, got, want)
		}
	}
	eachText([]string{"a", "b", ",", " ", "\t", "\n"}, 6, func(s string) {
		if got, want := Items(s), modelItems(s); !slices.Equal(got, want) {
			t.Fatalf("Items(%q): %q, not %q", s, got, want)
		}
	})
	eachByte(func(_ byte, s string) {
		for _, around := range []string{"%s", "a%sb", "%s,b", "a,%s", "a%s,%[1]sb"} {
			text := fmt.Sprintf(around, s)
			if got, want := Items(text), modelItems(text); !slices.Equal(got, want) {
				t.Fatalf("Items(%q): %q, not %q", text, got, want)
			}
		}
	})
	if n := len(Items(strings.Repeat("a, ,", 1<<19))); n != 1<<19 {
		t.Errorf("Items of many: %d", n)
	}
}

// What is told is the caller's: what is done with it shows in no later answer.
func TestP233ItemsAreTheCallers(t *testing.T) {
	first := Items("a, b, c")
	first[0], first[1] = "x", "y"
	if second := Items("a, b, c"); !slices.Equal(second, []string{"a", "b", "c"}) {
		t.Errorf("Items: %q", second)
	}
}

// Lines that are taken one behind the other, with their ends, and what is left are the text again.
func TestP234TheTextAgain(t *testing.T) {
	r := rand.New(rand.NewSource(234))
	for range 20000 {
		var text strings.Builder
		var lines []string
		for range r.Intn(8) {
			line := someText(r, "ab: \t\x00\xff", 6)
			lines = append(lines, line)
			text.WriteString(line + "\r\n")
		}
		last := someText(r, "ab", 3) + []string{"", "\r"}[r.Intn(2)]
		rest := text.String() + last
		for i, want := range lines {
			line, left, found, e := Line(rest)
			if line != want || !found || e != api.OK || line+"\r\n"+left != rest {
				t.Fatalf("line %d of %q: %q, %q, %t, %d", i, text.String(), line, left, found, e)
			}
			rest = left
		}
		if got := tell(rest); rest != last || got != (told{rest: last}) {
			t.Fatalf("behind the lines of %q: %v", text.String(), got)
		}
	}
}

// However much of a text came, its first line is the same one once it's whole, and what is wrong stays wrong.
func TestP234WhatComesLater(t *testing.T) {
	eachText([]string{"\r", "\n", "a"}, 7, func(s string) {
		whole := tell(s)
		for n := range len(s) {
			part := tell(s[:n])
			switch {
			case part.e != api.OK && whole.e == api.OK, part.found && (part.line != whole.line || !whole.found):
				t.Fatalf("Line(%q): %v, and of all %q: %v", s[:n], part, s, whole)
			}
		}
	})
}
