package path

import (
	"regexp"
	"strconv"
	"strings"
	"testing"

	"pantler/api"
)

// letters are all the bytes of segments, as the chapter lists them.
const letters = "abcdefghijklmnopqrstuvwxyzABCDEFGHIJKLMNOPQRSTUVWXYZ0123456789.-_"

var (
	nameForm   = regexp.MustCompile(`^[a-zA-Z0-9._-]+(/[a-zA-Z0-9._-]+)*$`)
	dotsForm   = regexp.MustCompile(`(^|/)\.\.?(/|$)`)
	targetForm = regexp.MustCompile(`^/((?s:[^?%]|%[0-9a-fA-F]{2})*)(?s:\?.*)?$`)
	escapeForm = regexp.MustCompile(`%..`)
)

// modelName is Name by the chapter's words.
func modelName(s string) bool {
	return len(s) >= 1 && len(s) <= 24 && nameForm.MatchString(s) && !dotsForm.MatchString(s)
}

// modelOf is Of by the chapter's words.
func modelOf(target string) (string, api.Errno) {
	if len(target) > 128 {
		return "", api.ErrLong
	}
	if !targetForm.MatchString(target) {
		return "", api.ErrPath
	}
	rest := strings.SplitN(target, "?", 2)[0][1:]
	if rest == "" {
		return "index.html", api.OK
	}
	slashes := strings.Count(rest, "/")
	name := escapeForm.ReplaceAllStringFunc(rest, func(s string) string {
		n, _ := strconv.ParseUint(s[1:], 16, 8)
		return string([]byte{byte(n)})
	})
	if strings.Count(name, "/") != slashes || !modelName(name) {
		return "", api.ErrPath
	}
	return name, api.OK
}

// eachText calls f with every text of at most most pieces.
func eachText(pieces []string, most int, f func(string)) {
	var from func(s string, left int)
	from = func(s string, left int) {
		f(s)
		if left == 0 {
			return
		}
		for _, p := range pieces {
			from(s+p, left-1)
		}
	}
	from("", most)
}

// chars are the characters of s, one by one.
func chars(s string) []string { return strings.Split(s, "") }

func checkOf(t *testing.T, target, want string, e api.Errno) {
	t.Helper()
	if got, told := Of(target); got != want || told != e {
		t.Errorf("Of(%.200q): %q, %d; not %q, %d", target, got, told, want, e)
	}
}

func TestP101Name(t *testing.T) {
	names := []string{
		"a", "Z", "0", "-", "_", "a.txt", "index.html", "a/b", "a/b/c/d", "A-b_c.9", ".a", "a.", "..a", "a..", "...", "....",
		".../a", "a/...", "a/.b", "a/b.", "-/_", "a..b", ".-", "._", "x/..y", "x./y", letters[:24], letters[24:48], letters[48:],
		strings.Repeat("a", 24), strings.Repeat("a/", 11) + "ab", strings.Repeat(".", 24),
	}
	for _, s := range names {
		if !Name(s) {
			t.Errorf("Name(%q) is false", s)
		}
	}
	wrong := []string{
		"", ".", "..", "/", "//", "/a", "a/", "a//b", "/a/", "./a", "../a", "a/.", "a/..", "a/./b", "a/../b", "a/b/..", "./.",
		"a b", " a", "a ", "a?", "?", "a%62", "%", "a\\b", "a\x00", "\x00", "a\n", "a\r\n", "a:b", "a*", "~a", "a+b", "a,b", "a@b",
		"\u00e4", "a\u0660", "\u212a", "\xff", "a/\x80", strings.Repeat("a", 25), strings.Repeat("a/", 12) + "a",
		strings.Repeat("a", 64), strings.Repeat("a/", 1<<16) + "a", strings.Repeat("/", 1<<16),
	}
	for _, s := range wrong {
		if Name(s) {
			t.Errorf("Name(%.40q) is true", s)
		}
	}
}

func TestP101NameOfEachByte(t *testing.T) {
	for c := range 256 {
		s := string([]byte{byte(c)})
		segment := strings.Contains(letters, s)
		for _, text := range []string{"a" + s, s + "a", "a" + s + "a", "b/a" + s, "b/" + s + "a"} {
			want := segment || s == "/" && text == "a/a"
			if Name(text) != want {
				t.Errorf("Name(%q) is not %t", text, want)
			}
		}
		if want := segment && s != "."; Name(s) != want {
			t.Errorf("Name(%q) is not %t", s, want)
		}
	}
}

func TestP101NameLength(t *testing.T) {
	for n := range 200 {
		if want := n >= 1 && n <= 24; Name(strings.Repeat("x", n)) != want {
			t.Errorf("Name of %d bytes is not %t", n, want)
		}
	}
}

func TestP101Of(t *testing.T) {
	tests := []struct{ target, want string }{
		{"/", "index.html"},
		{"/?", "index.html"},
		{"/?a=b", "index.html"},
		{"/??/../%", "index.html"},
		{"/index.html", "index.html"},
		{"/a%2Etxt?x", "a.txt"},
		{"/a.txt", "a.txt"},
		{"/a.txt?", "a.txt"},
		{"/a.txt?b?c", "a.txt"},
		{"/a?%", "a"},
		{"/a?%zz\x00\xff /", "a"},
		{"/a?/../..", "a"},
		{"/a/b/c", "a/b/c"},
		{"/a/.b/..c/d..", "a/.b/..c/d.."},
		{"/%61%2d%2D%5f%5F%2e%41%7a%7A%30", "a--__.Azz0"},
		{"/%61/%62", "a/b"},
		{"/...", "..."},
		{"/%2e%2e%2e", "..."},
		{"/.%2ea", "..a"},
		{"/" + strings.Repeat("a", 24), strings.Repeat("a", 24)},
		{"/" + strings.Repeat("%61", 24), strings.Repeat("a", 24)},
		{"/" + strings.Repeat("%61", 24) + "?" + strings.Repeat("%", 54), strings.Repeat("a", 24)},
		{"/?" + strings.Repeat("x", 126), "index.html"},
	}
	for _, c := range tests {
		checkOf(t, c.target, c.want, api.OK)
	}
}

func TestP101OfErrPath(t *testing.T) {
	wrong := []string{
		"", "?", "?/", "?/a", "a", "a/b", "*", "%2F", "%2Fa", "%2fa", " /a", "\x00/a", "\\a", "http://a/b", "index.html",
		"//", "///", "//a", "/a/", "/a//b", "/a/?x", "//?x", "/.", "/..", "/./", "/../", "/./a", "/../a", "/a/.", "/a/..", "/a/./b",
		"/a/../b", "/.?x", "/..?x", "/a/..?x", "/%2e", "/%2E", "/%2e%2E", "/.%2e", "/%2e.", "/a/%2e", "/a/%2e./b",
		"/%2F", "/%2f", "/a%2Fb", "/a%2fb", "/%2fa", "/a%2F", "/a/%2F", "/a/%2Fb",
		"/%", "/a%", "/%6", "/a%6", "/%%", "/%%61", "/%6%31", "/%6?1", "/%?61", "/a%?", "/a%6?", "/%6g", "/%g6", "/%G6", "/%-1", "/%+1",
		"/% 6", "/%6 ", "/%0x", "/%x6", "/%6_", "/%_6", "/%/6", "/%6/", "/%u0061", "/%\u0666\u0661", "/%\xff\xff",
		"/%25", "/%2561", "/a%25", "/%252e", "/%3f", "/%3F", "/a%3Fb", "/%20", "/a%20b", "/%00", "/%0a", "/%0D", "/%7f", "/%80", "/%ff", "/%FF",
		"/a b", "/ ", "/a\n", "/\x00", "/a#b", "/#", "/a;b", "/a+b", "/a&b", "/~a", "/\u00e4", "/\xff", "/a\\b", "/a:b", "/a=b",
		"/" + strings.Repeat("a", 25), "/" + strings.Repeat("%61", 25), "/" + strings.Repeat("a", 25) + "?x",
		"/" + strings.Repeat("a", 127), "/" + strings.Repeat("/", 127), strings.Repeat("a", 128), strings.Repeat("%", 128),
	}
	for _, target := range wrong {
		checkOf(t, target, "", api.ErrPath)
	}
}

func TestP101OfErrLong(t *testing.T) {
	for _, n := range []int{129, 130, 256, 1024, 1 << 20} {
		for _, target := range []string{
			"/" + strings.Repeat("a", n-1),
			"/a?" + strings.Repeat("b", n-3), // what counts for nothing is long, too
			"/?" + strings.Repeat("b", n-2),
			"/" + strings.Repeat("%61", 24) + "?" + strings.Repeat("b", n-74),
			strings.Repeat("a", n), // ErrLong is ahead of ErrPath
			"?" + strings.Repeat("/", n-1),
			"/" + strings.Repeat("%", n-1),
			strings.Repeat("\x00", n),
		} {
			checkOf(t, target, "", api.ErrLong)
		}
	}
	checkOf(t, "/a?"+strings.Repeat("b", 125), "a", api.OK)
	checkOf(t, "?"+strings.Repeat("b", 127), "", api.ErrPath)
}

func TestP101OfEachByte(t *testing.T) {
	for c := range 256 {
		s := string([]byte{byte(c)})
		switch {
		case s == "?":
			checkOf(t, "/a"+s+"b", "a", api.OK)
		case s == "/" || strings.Contains(letters, s):
			checkOf(t, "/a"+s+"b", "a"+s+"b", api.OK)
		default:
			checkOf(t, "/a"+s+"b", "", api.ErrPath)
		}
		if s != "/" {
			checkOf(t, s+"a", "", api.ErrPath)
		}
	}
}

func TestP101OfEachByteByDigits(t *testing.T) {
	for c := range 256 {
		s := string([]byte{byte(c)})
		want, e := "", api.ErrPath
		if strings.Contains(letters, s) {
			want, e = "a"+s+"b", api.OK
		}
		low := strconv.FormatInt(int64(256+c), 16)[1:]
		high := strings.ToUpper(low)
		for _, digits := range []string{low, high, low[:1] + high[1:], high[:1] + low[1:]} {
			checkOf(t, "/a%"+digits+"b", want, e)
		}
	}
}

func TestP101OfEachPairOfDigits(t *testing.T) {
	for i := range 1 << 16 {
		target := "/a%" + string([]byte{byte(i >> 8), byte(i)}) + "b"
		want, e := modelOf(target)
		checkOf(t, target, want, e)
	}
}

func TestP101AsTheWordsSay(t *testing.T) {
	eachText(chars("/.a%2Ef?"), 6, func(s string) {
		if Name(s) != modelName(s) {
			t.Fatalf("Name(%q) is not %t", s, modelName(s))
		}
		for _, target := range []string{s, "/" + s} {
			want, e := modelOf(target)
			if got, told := Of(target); got != want || told != e {
				t.Fatalf("Of(%q): %q, %d; not %q, %d", target, got, told, want, e)
			}
		}
	})
	eachText([]string{"%2e", "%2F", "%61", "/", ".", "b", "?", "%3f", "%25", "\xff"}, 5, func(s string) {
		want, e := modelOf("/" + s)
		if got, told := Of("/" + s); got != want || told != e {
			t.Fatalf("Of(%q): %q, %d; not %q, %d", "/"+s, got, told, want, e)
		}
	})
}

func TestP102Target(t *testing.T) {
	for _, s := range []string{"a", "a/b", "index.html", ".a", "...", letters[:24], "a/b/c/d.txt", strings.Repeat("a", 24)} {
		if got, e := Target(s); got != "/"+s || e != api.OK {
			t.Errorf("Target(%q): %q, %d", s, got, e)
		}
	}
	wrong := []string{
		"", ".", "..", "/", "/a", "a/", "a//b", "a/../b", "a?b", "a%62", "a b", "\xff", "\x00", "\u00e4",
		strings.Repeat("a", 25), strings.Repeat("a", 129), strings.Repeat("a", 1<<20),
	}
	for _, s := range wrong {
		if got, e := Target(s); got != "" || e != api.ErrPath {
			t.Errorf("Target(%.40q): %.40q, %d", s, got, e)
		}
	}
}

func TestP102Kind(t *testing.T) {
	kinds := []struct{ end, kind string }{
		{"html", "text/html"},
		{"txt", "text/plain"},
		{"css", "text/css"},
		{"js", "text/javascript"},
		{"png", "image/png"},
		{"json", "application/json"},
	}
	const other = "application/octet-stream"
	check := func(name, want string) {
		t.Helper()
		if got := Kind(name); got != want {
			t.Errorf("Kind(%.40q): %q, not %q", name, got, want)
		}
	}
	for _, k := range kinds {
		for _, ahead := range []string{"a.", "a/b.", "a.b/c.", "a.html.", "a.txt/b.", "a..", ".", "a/.", "...", "a.png.css."} {
			check(ahead+k.end, k.kind)
		}
		for _, name := range []string{
			k.end, "a/" + k.end, "a." + k.end + "/b", "a." + k.end + ".b", "a." + k.end + ".", "a." + k.end + "x", "a.x" + k.end, "a." + k.end[1:],
			"a." + k.end[:len(k.end)-1], "a." + strings.ToUpper(k.end), "a." + strings.ToUpper(k.end[:1]) + k.end[1:], "a-" + k.end, "a" + k.end,
			"a./" + k.end, "a." + k.end + "/", "a." + k.end + "?x", "a. " + k.end, "a." + k.end + " ", "a." + k.end + "\x00",
		} {
			check(name, other)
		}
	}
	for _, name := range []string{"", ".", "..", "a", "a.", "a.b", "/", "./", "a/.", "a.b/c", "a.htm", "a.jpeg", "a.xml", "\xff", "\xff.\xff", strings.Repeat(".", 1<<16), strings.Repeat("a", 1<<16)} {
		check(name, other)
	}
}

// eachName calls f with names of all lengths, with each byte of segments at each place of some.
func eachName(t *testing.T, f func(string)) {
	eachText(chars("a.Z-/%?"), 6, func(s string) {
		if Name(s) {
			f(s)
		}
	})
	for n := range 25 {
		for _, c := range chars(letters) {
			for _, s := range []string{strings.Repeat("x", n) + c, strings.Repeat("x/", n/2) + c + "y", c + "y" + strings.Repeat("/x", n/2)} {
				if modelName(s) != Name(s) {
					t.Fatalf("Name(%q) is not %t", s, modelName(s))
				}
				if Name(s) {
					f(s)
				}
			}
		}
	}
}

func TestP103OfTargetIsTheName(t *testing.T) {
	names := 0
	eachName(t, func(s string) {
		names++
		target, e := Target(s)
		if e != api.OK {
			t.Fatalf("Target(%q): %d", s, e)
		}
		if got, e := Of(target); got != s || e != api.OK {
			t.Fatalf("Of(%q): %q, %d", target, got, e)
		}
	})
	if names < 1000 {
		t.Errorf("there were %d names alone", names)
	}
}

func TestP103WhatOfTellsIsAName(t *testing.T) {
	told := 0
	eachText([]string{"/", ".", "a", "%2e", "%2f", "%41", "%", "?", "aaaaaaaaaaa"}, 6, func(s string) {
		name, e := Of("/" + s)
		if e == api.OK {
			told++
		}
		if modelName(name) != (e == api.OK) {
			t.Fatalf("Of(%q): %q, %d", "/"+s, name, e)
		}
	})
	if told < 1000 {
		t.Errorf("%d names alone were told", told)
	}
}
