package request

import (
	"fmt"
	"math/rand"
	"reflect"
	"regexp"
	"slices"
	"strings"
	"testing"
)

const (
	host = "Host: x\r\n\r\n" // the end of a head that may be
	good = "GET / HTTP/1.1\r\n" + host
)

// told is what Next tells.
type told struct {
	r      Request
	status int
}

func (a told) String() string { return fmt.Sprintf("%.300q, %d", fmt.Sprintf("%+v", a.r), a.status) }

// same tells whether both are the same, whether a list without items is nil or empty.
func (a told) same(b told) bool {
	if len(a.r.Fields) == 0 && len(b.r.Fields) == 0 {
		a.r.Fields, b.r.Fields = nil, nil
	}
	return reflect.DeepEqual(a, b)
}

func next(p *Parser) told {
	r, status := p.Next()
	return told{r, status}
}

// fed is a parser to which the pieces came.
func fed(pieces ...string) *Parser {
	p := New()
	for _, s := range pieces {
		p.Feed([]byte(s))
	}
	return p
}

// check asks for what Next tells, and for how many bytes are held then.
func check(t *testing.T, p *Parser, want told, held int) {
	t.Helper()
	if got := next(p); !got.same(want) {
		t.Fatalf("Next: %v; not %v", got, want)
	}
	if p.Held() != held {
		t.Fatalf("Held: %d, not %d", p.Held(), held)
	}
}

// checkStatus asks for the status of s, behind which nothing more may be told.
func checkStatus(t *testing.T, s string, want int) {
	t.Helper()
	p := fed(s)
	if got := next(p); !got.same(told{status: want}) {
		t.Errorf("Next of %.200q (%d bytes): %v; not %d", s, len(s), got, want)
		return
	}
	if want == unended {
		if p.Held() != len(s) {
			t.Errorf("Held of %.200q: %d", s, p.Held())
		}
		return
	}
	for _, more := range []string{"", good, "\n", strings.Repeat("a", 2000)} {
		p.Feed([]byte(more))
		if got := next(p); !got.same(told{status: unended}) || p.Held() != 0 {
			t.Errorf("behind the error of %.200q: %v, %d held", s, got, p.Held())
		}
	}
}

// checkGood asks whether s is one request, and tells it.
func checkGood(t *testing.T, s string) Request {
	t.Helper()
	p := fed(s)
	r, status := p.Next()
	if status != 0 || p.Held() != 0 {
		t.Errorf("Next of %.200q (%d bytes): %d, %d held", s, len(s), status, p.Held())
	}
	return r
}

const letters = `[A-Za-z0-9!#$%&'*+\-.^_` + "`" + `|~]+`

var (
	firstForm  = regexp.MustCompile(`^(` + letters + `) ([!-~]+) HTTP/([0-9])\.([0-9])$`)
	fieldForm  = regexp.MustCompile(`^(` + letters + `):[ \t]*([^\x00-\x08\x0a-\x1f\x7f]*)$`)
	lengthForm = regexp.MustCompile(`^0+$`)
	methodForm = regexp.MustCompile(`^(GET|HEAD|POST|PUT|DELETE|OPTIONS|TRACE|CONNECT|PATCH)$`)
)

// modelNext is Next by the chapter's words, where s is held, and how many bytes the head has.
func modelNext(s string) (told, int) {
	var lines []string
	for at := 0; ; {
		line, _, found := strings.Cut(s[at:], "\r\n")
		inner := line
		if !found {
			inner = strings.TrimSuffix(line, "\r")
		}
		switch {
		case strings.ContainsAny(inner, "\r\n"):
			return told{status: 400}, 0
		case !found && len(s) >= 1024:
			return told{status: 431}, 0
		case !found:
			return told{status: -1}, 0
		}
		at += len(line) + 2
		end := line == "" && len(lines) > 0
		switch {
		case at > 1024 || at == 1024 && !end:
			return told{status: 431}, 0
		case end:
			return modelHead(lines), at
		case line != "":
			lines = append(lines, line)
		}
	}
}

// modelHead tells what a whole head means.
func modelHead(lines []string) told {
	first := firstForm.FindStringSubmatch(lines[0])
	switch {
	case first == nil:
		return told{status: 400}
	case first[3] != "1":
		return told{status: 505}
	case len(first[2]) > 128:
		return told{status: 414}
	}
	r := Request{Method: first[1], Target: first[2], Minor: 1}
	if first[4] == "0" {
		r.Minor = 0
	}
	values := map[string][]string{}
	for _, line := range lines[1:] {
		f := fieldForm.FindStringSubmatch(line)
		if f == nil {
			return told{status: 400}
		}
		name, value := strings.ToLower(f[1]), strings.Trim(f[2], " \t")
		r.Fields = append(r.Fields, Field{name, value})
		values[name] = append(values[name], value)
	}
	badLength := func(v string) bool { return !lengthForm.MatchString(v) }
	switch {
	case values["transfer-encoding"] != nil:
		return told{status: 501}
	case slices.ContainsFunc(values["content-length"], badLength):
		return told{status: 400}
	case len(values["host"]) > 1 || len(values["host"]) < r.Minor:
		return told{status: 400}
	case !methodForm.MatchString(r.Method):
		return told{status: 501}
	}
	has := map[string]bool{}
	for _, v := range values["connection"] {
		for _, item := range strings.Split(v, ",") {
			has[strings.ToLower(strings.Trim(item, " \t"))] = true
		}
	}
	r.Close = has["close"] || r.Minor == 0 && !has["keep-alive"]
	return told{r: r}
}

// checkModel holds what is told of s, request by request, against the model.
func checkModel(t *testing.T, s string) {
	t.Helper()
	p := fed(s)
	for left := s; ; {
		want, size := modelNext(left)
		if got := next(p); !got.same(want) {
			t.Fatalf("Next of %.300q: %v; not %v", left, got, want)
		}
		left = left[size:]
		switch {
		case want.status > 0 && p.Held() != 0, want.status <= 0 && p.Held() != len(left):
			t.Fatalf("Held behind %d of %.300q: %d", want.status, s, p.Held())
		case want.status != 0:
			return
		}
	}
}

// filled is a head of that many bytes in all: begin, a long field, and the ends of the field and of the head.
func filled(begin string, size int) string {
	const name = "A: "
	return begin + name + strings.Repeat("b", size-len(begin)-len(name)-4) + "\r\n\r\n"
}

func TestP241Requests(t *testing.T) {
	for s, want := range map[string]Request{
		good: {Method: "GET", Target: "/", Minor: 1, Fields: []Field{{"host", "x"}}},
		"\r\n\r\n\r\nHEAD /a/b?c=%20&d HTTP/1.1\r\nHOST:\r\n\r\n": {Method: "HEAD", Target: "/a/b?c=%20&d", Minor: 1, Fields: []Field{{"host", ""}}},
		"GET /a HTTP/1.0\r\n\r\n":                                 {Method: "GET", Target: "/a", Close: true},
		"GET /a HTTP/1.0\r\nhost: x\r\n\r\n":                      {Method: "GET", Target: "/a", Fields: []Field{{"host", "x"}}, Close: true},
		"GET * HTTP/1.9\r\nHost: x\r\n\r\n":                       {Method: "GET", Target: "*", Minor: 1, Fields: []Field{{"host", "x"}}},
		"GET http://a:1/b#~! HTTP/1.2\r\nhost: x\r\n\r\n":         {Method: "GET", Target: "http://a:1/b#~!", Minor: 1, Fields: []Field{{"host", "x"}}},
		"POST ! HTTP/1.1\r\nX-a_B:\t 1 , 2 \t\r\nx-A_b: \xff:\"\t\x80\r\nHost:  a b \r\nContent-Length: 0\r\nY:\r\n\r\n": {
			Method: "POST", Target: "!", Minor: 1,
			Fields: []Field{{"x-a_b", "1 , 2"}, {"x-a_b", "\xff:\"\t\x80"}, {"host", "a b"}, {"content-length", "0"}, {"y", ""}},
		},
	} {
		check(t, fed(s), told{r: want}, 0)
		check(t, fed(s+"GE"), told{r: want}, 2)
		checkModel(t, s)
	}
}

func TestP241Nothing(t *testing.T) {
	for _, s := range []string{"", "\r", "\r\n", "\r\n\r\n", "\r\n\r\n\r", "G", "GET / HTTP/1.1", "GET / HTTP/1.1\r", "GET / HTTP/1.1\r\n", "GET / HTTP/1.1\r\nHost: x\r\n", "GET / HTTP/1.1\r\nHost: x\r\n\r",
		// What is wrong in a line is told of a whole head alone.
		"GET\r\n", "FOO / HTTP/2.0\r\n a\r\n", "GET / HTTP/1.1\r\nTransfer-Encoding: a\r\nHost: a\r\nHost: b\r\n", "\x00\xff\x7f\r\n"} {
		checkStatus(t, s, -1)
		checkModel(t, s)
	}
}

func TestP241Nil(t *testing.T) {
	var p *Parser
	p.Feed(nil)
	p.Feed([]byte(good))
	check(t, p, told{status: 3}, 0)
	p = New()
	if p == nil {
		t.Fatal("New is nil")
	}
	check(t, p, told{status: -1}, 0)
	p.Feed(nil)
	p.Feed([]byte{})
	check(t, p, told{status: -1}, 0)
}

func TestP241FirstLine(t *testing.T) {
	for _, line := range []string{"GET", "GET /", "GET / ", "GET  / HTTP/1.1", "GET /  HTTP/1.1", " GET / HTTP/1.1", "GET / HTTP/1.1 ", "GET\t/ HTTP/1.1", "GET /\tHTTP/1.1", "GET / HTTP/1.1\t", "GET / a HTTP/1.1",
		" / HTTP/1.1", "GET HTTP/1.1", "GET  HTTP/1.1", "GE:T / HTTP/1.1", "G\xc4T / HTTP/1.1", "GET /\x7f HTTP/1.1", "GET /\x80 HTTP/1.1", "GET /\xff HTTP/1.1", "GET /\x00 HTTP/1.1", "GET /\u00e4 HTTP/1.1",
		"GET / ", "GET / HTTP/", "GET / HTTP/1", "GET / HTTP/1.", "GET / HTTP/.1", "GET / HTTP/1.10", "GET / HTTP/11.1", "GET / HTTP/01.1", "GET / HTTP/1.1.1", "GET / HTTP/a.1", "GET / HTTP/1.a", "GET / HTTP/1,1", "GET / HTTP/1:1", "GET / HTTP/1-1",
		"GET / HTTP/ 1.1", "GET / HTTP /1.1", "GET / http/1.1", "GET / Http/1.1", "GET / HTTPS/1.1", "GET / XHTTP/1.1", "GET / HTP/1.1", "GET / 1.1", "GET / HTTP1.1", "GET / HTTP//1.1", "GET / HTTP/+1.1", "GET / HTTP/-1.1", "Host: x", ":", "\x00"} {
		checkStatus(t, line+"\r\n"+host, 400)
		checkStatus(t, "\r\n"+line+"\r\n"+host, 400)
	}
	for c := '0'; c <= '9'; c++ {
		want := 505
		if c == '1' {
			want = 0
		}
		for d := '0'; d <= '9'; d++ {
			p := fed("GET / HTTP/" + string(c) + "." + string(d) + "\r\n" + host)
			minor := 1
			if d == '0' {
				minor = 0
			}
			if r, status := p.Next(); status != want || want == 0 && (r.Minor != minor || r.Close != (minor == 0)) {
				t.Errorf("version %c.%c: %+v, %d", c, d, r, status)
			}
		}
	}
}

func TestP241FirstLineOfEachByte(t *testing.T) {
	const line = "GET /a HTTP/1.1"
	for c := range 256 {
		b := string([]byte{byte(c)})
		for i := range len(line) + 1 {
			checkModel(t, line[:i]+b+line[i:]+"\r\n"+host+good)
			if i < len(line) {
				checkModel(t, line[:i]+b+line[i+1:]+"\r\n"+host+good)
			}
		}
		inTarget := fed("GET " + b + " HTTP/1.1\r\n" + host)
		if r, status := inTarget.Next(); c >= 33 && c <= 126 && (status != 0 || r.Target != b) || (c < 33 || c > 126) && status != 400 {
			t.Errorf("target %q: %+v, %d", b, r, status)
		}
	}
}

func TestP241Methods(t *testing.T) {
	for _, m := range []string{"GET", "HEAD", "POST", "PUT", "DELETE", "OPTIONS", "TRACE", "CONNECT", "PATCH"} {
		if r := checkGood(t, m+" / HTTP/1.1\r\n"+host); r.Method != m {
			t.Errorf("%s: %q", m, r.Method)
		}
		for _, other := range []string{m + "S", "X" + m, m[:len(m)-1], m[1:], strings.ToLower(m), m[:1] + strings.ToLower(m[1:]), m + m, m + "!"} {
			checkStatus(t, other+" / HTTP/1.1\r\n"+host, 501)
		}
	}
	for _, m := range []string{"FOO", "PROPFIND", "LINK", "~", "0", "HTTP"} {
		checkStatus(t, m+" / HTTP/1.1\r\n"+host, 501)
		checkStatus(t, m+" / HTTP/1.0\r\n\r\n", 501)
	}
}

func TestP241Target(t *testing.T) {
	for n := 1; n <= 140; n++ {
		target := "/" + strings.Repeat("a", n-1)
		s := "GET " + target + " HTTP/1.1\r\n" + host
		if n > 128 {
			checkStatus(t, s, 414)
		} else if r := checkGood(t, s); r.Target != target {
			t.Errorf("a target of %d bytes: %q", n, r.Target)
		}
	}
	checkGood(t, "GET /?"+strings.Repeat("%", 126)+" HTTP/1.1\r\n"+host)
	checkStatus(t, "GET /?"+strings.Repeat("%", 127)+" HTTP/1.1\r\n"+host, 414)
	checkStatus(t, "GET /"+strings.Repeat("a", 900)+" HTTP/1.1\r\n"+host, 414)
	checkStatus(t, "GET /"+strings.Repeat("a", 1024)+" HTTP/1.1\r\n"+host, 431)
}

func TestP241Fields(t *testing.T) {
	for _, line := range []string{" a: b", "\ta: b", " b", "a", "a b", ":", ": b", "a : b", "a\t: b", "a b: c", "a: \x00", "a: b\x7f", "a: \x1f", "a\x80: b", "\u00e4: b", "(a): b", "a;: b", "=: b", "GET / HTTP/1.1"} {
		checkStatus(t, "GET / HTTP/1.1\r\n"+line+"\r\n"+host, 400)
		checkStatus(t, "GET / HTTP/1.1\r\nHost: x\r\n"+line+"\r\n\r\n", 400)
		checkStatus(t, "GET / HTTP/1.0\r\n"+line+"\r\n\r\n", 400)
	}
	for c := range 256 {
		b := string([]byte{byte(c)})
		for _, line := range []string{b, b + ": a", "a" + b + ": c", "a" + b + "c", "a:" + b, "a: " + b + "c", "a: c" + b} {
			checkModel(t, "GET / HTTP/1.1\r\n"+line+"\r\n"+host+good)
		}
	}
}

func TestP241Bodies(t *testing.T) {
	for _, name := range []string{"Transfer-Encoding", "transfer-encoding", "TRANSFER-ENCODING"} {
		for _, value := range []string{"", "chunked", "identity", "0"} {
			checkStatus(t, "GET / HTTP/1.1\r\n"+name+": "+value+"\r\n"+host, 501)
			checkStatus(t, "GET / HTTP/1.0\r\n"+name+": "+value+"\r\n\r\n", 501)
			checkStatus(t, "POST / HTTP/1.1\r\nHost: x\r\na: b\r\n"+name+":"+value+"\r\n\r\n", 501)
		}
	}
	checkGood(t, "GET / HTTP/1.1\r\nTE: chunked\r\nx-transfer-encoding: a\r\ntransfer_encoding: b\r\n"+host)
	for value, want := range map[string]int{
		"0": 0, "00": 0, " 0\t": 0, strings.Repeat("0", 500): 0, "1": 400, "10": 400, "01": 400, "": 400, "-0": 400, "+0": 400, "0,0": 400, "0, 0": 400, "0 0": 400, "0x0": 400, "a": 400, "0a": 400, "0.0": 400, "\xff": 400,
		"1099511627776": 400, "1099511627777": 400, "18446744073709551616": 400, strings.Repeat("9", 500): 400,
	} {
		for _, s := range []string{"GET / HTTP/1.1\r\nContent-Length:" + value + "\r\n" + host, "POST / HTTP/1.0\r\ncontent-length: " + value + "\r\n\r\n", "PUT / HTTP/1.1\r\nHost: x\r\nCONTENT-LENGTH:" + value + "\r\nContent-Length: 0\r\n\r\n", "PUT / HTTP/1.1\r\nContent-Length: 0\r\na: b\r\ncontent-length: " + value + "\r\n" + host} {
			if want == 0 {
				checkGood(t, s)
			} else {
				checkStatus(t, s, want)
			}
		}
	}
	checkGood(t, "GET / HTTP/1.1\r\nX-Content-Length: 5\r\nContent-Type: 5\r\n"+host)
}

func TestP241Host(t *testing.T) {
	for n, values := range [][]string{{}, {"x"}, {"x", "x"}, {"", "x"}, {"x", "y", "z"}} {
		fields := "a: host\r\nx-host: y\r\nhosts: z\r\n"
		for _, v := range values {
			fields += "hOsT: " + v + "\r\nb: c\r\n"
		}
		for minor := range 10 {
			s := fmt.Sprintf("GET / HTTP/1.%d\r\n%s\r\n", minor, fields)
			switch {
			case n == 1, n == 0 && minor == 0:
				checkGood(t, s)
			default:
				checkStatus(t, s, 400)
			}
		}
	}
}

func TestP241Close(t *testing.T) {
	for _, c := range []struct {
		values      []string
		one, before bool // whether 1.1 and 1.0 are closed
	}{
		{nil, false, true},
		{[]string{""}, false, true},
		{[]string{"close"}, true, true},
		{[]string{"CLOSE"}, true, true},
		{[]string{"cLoSe"}, true, true},
		{[]string{" , x ,\tClose\t,"}, true, true},
		{[]string{"keep-alive"}, false, false},
		{[]string{"Keep-Alive"}, false, false},
		{[]string{"x,KEEP-ALIVE"}, false, false},
		{[]string{"keep-alive, close"}, true, true},
		{[]string{"close, keep-alive"}, true, true},
		{[]string{"keep-alive", "x", "close"}, true, true},
		{[]string{"close", "keep-alive"}, true, true},
		{[]string{"x", "keep-alive"}, false, false},
		{[]string{"closed", "xclose", "clo se", "close;x", "\"close\""}, false, true},
		{[]string{"keepalive", "keep-alive-x", "keep -alive", "keep-alive;x"}, false, true},
		{[]string{"clo", "se"}, false, true},
		{[]string{"upgrade"}, false, true},
	} {
		fields := "X-Connection: close\r\nproxy-connection: close, keep-alive\r\nx: close\r\n"
		for _, v := range c.values {
			fields += "Connection: " + v + "\r\n"
		}
		for minor := range 10 {
			want := c.one
			if minor == 0 {
				want = c.before
			}
			s := fmt.Sprintf("GET / HTTP/1.%d\r\n%s%s", minor, fields, host)
			if r := checkGood(t, s); r.Close != want {
				t.Errorf("Close of %q: %t", s, r.Close)
			}
		}
	}
}

// faults are heads' pieces that are wrong, in the order in which they are told.
var faults = []struct {
	status                  int
	method, target, version string
	line                    string
}{
	{status: 400, version: "HTTP/x"},
	{status: 505, version: "HTTP/2.0"},
	{status: 414, target: "/" + strings.Repeat("a", 128)},
	{status: 400, line: " a\r\n"},
	{status: 501, line: "Transfer-Encoding: a\r\n"},
	{status: 400, line: "Content-Length: 1\r\n"},
	{status: 400, line: "Host: a\r\nHost: a\r\n"},
	{status: 501, method: "FOO"},
}

func TestP241Order(t *testing.T) {
	for set := 1; set < 1<<len(faults); set++ {
		method, target, version, before, behind, want := "GET", "/", "HTTP/1.1", "", "", 0
		for i := len(faults) - 1; i >= 0; i-- {
			if f := faults[i]; set>>i&1 == 1 {
				want = f.status
				method, target, version = pick(f.method, method), pick(f.target, target), pick(f.version, version)
				before, behind = before+f.line, f.line+behind
			}
		}
		for _, lines := range []string{before, behind} {
			s := method + " " + target + " " + version + "\r\n" + lines + host
			checkStatus(t, s, want)
			checkModel(t, s)
			// A line that is none is found ahead of all else, and so is a head that is too long.
			checkStatus(t, strings.Replace(s, "Host: x\r\n", "a\n", 1), 400)
			checkStatus(t, strings.Replace(s, "Host: x", strings.Repeat("a", 1024), 1), 431)
		}
	}
}

// pick is s, or other where s is empty.
func pick(s, other string) string {
	if s == "" {
		return other
	}
	return s
}

func TestP241Lines(t *testing.T) {
	for _, s := range []string{"\n", "\rx", "\r\r", "a\n", "a\rb", "GET / HTTP/1.1\n", "GET / HTTP/1.1\nHost: x\n\n", "GET / HTTP/1.1\r\nHost: x\n", "GET / HTTP/1.1\r\nHost: x\r\n\n", "GET / HTTP/1.1\r\nHost: x\r\n\r\r", "GET / HTTP/1.1\r\nHost: x\r\r\n", "GET / HTTP/1.1\r\nHost: x\r\n\ra", "\r\n\n", "\r\n\r\r\n", "\r\n\r\n\r\n\rG", "GET / HTTP/1.1\r\nHost: x\r\na: \n", "GET / HTTP/1.1\r\nHost: x\r\na: b\rc"} {
		checkStatus(t, s, 400)
		checkStatus(t, s+"\r\n"+host, 400)
		checkStatus(t, s+strings.Repeat("b", 2000), 400)
		checkModel(t, s)
		checkModel(t, good+s)
	}
	// What stands behind a head is none of its lines.
	check(t, fed(good+"\n"), next(fed(good)), 1)
}

func TestP241Sizes(t *testing.T) {
	for _, begin := range []string{"GET / HTTP/1.1\r\nHost: x\r\n", "\r\nGET / HTTP/1.1\r\nHost: x\r\n", "\r\n\r\n\r\nHEAD /a HTTP/1.1\r\nHost: x\r\nb: c\r\n", strings.Repeat("\r\n", 300) + "GET / HTTP/1.0\r\n"} {
		for size := 1000; size <= 1023; size++ {
			checkGood(t, filled(begin, size))
		}
		s := filled(begin, 1024)
		checkGood(t, s)
		checkStatus(t, s[:1023], -1)
		checkStatus(t, s[:1022], -1)
		for size := 1025; size <= 1060; size++ {
			s := filled(begin, size)
			checkStatus(t, s, 431)
			checkStatus(t, s[:1024], 431)
			checkStatus(t, s[:1023], -1)
		}
		checkStatus(t, filled(begin, 5000), 431)
	}
	for n := range 600 {
		empty := strings.Repeat("\r\n", n)
		want := -1
		if n >= 512 {
			want = 431
		}
		checkStatus(t, empty, want)
		checkModel(t, empty+good)
		if n < 512 {
			checkStatus(t, empty+"\r", -1)
		}
	}
	checkStatus(t, strings.Repeat("a", 1023), -1)
	checkStatus(t, strings.Repeat("a", 1022)+"\r", -1)
	for _, s := range []string{strings.Repeat("a", 1024), strings.Repeat("a", 1023) + "\r", strings.Repeat("a", 1022) + "\r\n", strings.Repeat("a", 1020) + "\r\n\r\r"} {
		want, _ := modelNext(s)
		checkStatus(t, s, want.status)
	}
	checkStatus(t, strings.Repeat("a", 1023)+"\r", 431)
	checkStatus(t, strings.Repeat("a", 1022)+"\r\n", 431)
	checkStatus(t, strings.Repeat("a", 1021)+"\r\n\r", 431)
	checkStatus(t, strings.Repeat("a", 1020)+"\r\n\r\n", 400) // whole, and no first line
	checkStatus(t, strings.Repeat("a", 1021)+"\r\n\r\n", 431)
}

func TestP241SizeOfEachHead(t *testing.T) {
	// The bytes of heads that were told count no more.
	p := fed(strings.Repeat(good, 100), filled(good[:len(good)-2], 1024), filled(good[:len(good)-2], 1025))
	for range 101 {
		if r, status := p.Next(); status != 0 || r.Method != "GET" {
			t.Fatalf("Next: %+v, %d", r, status)
		}
	}
	check(t, p, told{status: 431}, 0)
}

func TestP241LineByLine(t *testing.T) {
	long := strings.Repeat("a", 1100)
	short := strings.Repeat("abc\r\n", 204) // 1020 bytes
	for s, want := range map[string]int{
		// In one line 400 is ahead.
		"\n" + long:                     400,
		long[:1023] + "\n":              400,
		long[:1023] + "\n" + long:       400,
		long[:1022] + "\rb":             400,
		long + "\n":                     400,
		long + "\rb\r\n\r\n":            400,
		short + "abcd\n":                400,
		short + "abc\rd":                400,
		"a\r\n" + long + "\n" + host:    400,
		"\r\n" + long + long + "\r\r\n": 400,
		// What stands in later lines isn't looked at.
		long + "\r\n\n":                431,
		long + "\r\n\rb":               431,
		long + "\r\na\n":               431,
		long + "\r\n\r\n\n":            431,
		long[:1022] + "\r\n\n":         431,
		long[:1022] + "\r\nb\n":        431,
		short + "ab\r\n\n":             431,
		short + "ab\r\n\rb":            431,
		short + "abc\r\n\n":            431,
		short + "abc\r\r\n":            400,
		short + "\n":                   400,
		short + "a\r\n\n":              400,
		short + "a\r\n\rb":             400,
		strings.Repeat("abc\r\n", 300): 431,
	} {
		checkStatus(t, s, want)
		checkModel(t, s)
	}
}

func TestP241AsSoonAs(t *testing.T) {
	for s, want := range map[string]int{
		"a\n":                                   400,
		"a\rb":                                  400,
		"\n":                                    400,
		"GET / HTTP/1.1\n":                      400,
		good[:len(good)-2] + "\r\r":             400,
		strings.Repeat("a", 1024):               431,
		strings.Repeat("a", 1023) + "\n":        400,
		strings.Repeat("a", 1023) + "\r":        431,
		strings.Repeat("\r\n", 512):             431,
		filled(good[:len(good)-2], 1025)[:1024]: 431,
		"GET / HTTP/2.0\r\n\r\n":                505,
		"FOO / HTTP/1.0\r\n\r\n":                501,
		"GET\r\n\r\n":                           400,
	} {
		p := New()
		for i := range len(s) {
			check(t, p, told{status: -1}, i)
			p.Feed([]byte{s[i]})
		}
		check(t, p, told{status: want}, 0)
	}
}

func TestP241Held(t *testing.T) {
	p := New()
	for i, s := range []string{"", "\r\n", "GET /", "", " HTTP/1.1\r\n", host, good, "\n", "\x00"} {
		before := p.Held()
		p.Feed([]byte(s))
		if p.Held() != before+len(s) {
			t.Errorf("Held behind piece %d: %d, not %d", i, p.Held(), before+len(s))
		}
	}
	first := told{r: Request{Method: "GET", Target: "/", Minor: 1, Fields: []Field{{"host", "x"}}}}
	check(t, p, first, len(good)+2)
	check(t, p, first, 2)
	check(t, p, told{status: 400}, 0)
	p.Feed([]byte(good))
	check(t, p, told{status: -1}, 0)
}

func TestP241Apart(t *testing.T) {
	b := []byte(good + good)
	p, q := New(), New()
	p.Feed(b)
	q.Feed(b)
	if string(b) != good+good {
		t.Errorf("Feed changed what was handed in: %q", b)
	}
	clear(b)
	want := next(fed(good))
	one, two := next(p), next(p)
	if !one.same(want) || !two.same(want) {
		t.Fatalf("what was handed in is kept: %v, %v", one, two)
	}
	one.r.Fields[0] = Field{"a", "b"}
	_ = append(one.r.Fields, Field{"c", "d"})
	if !two.same(want) || !next(q).same(want) {
		t.Error("two requests share fields")
	}
}

func TestP242Get(t *testing.T) {
	r := checkGood(t, "GET / HTTP/1.1\r\nB: 1\r\nx:  2 \r\nb:\r\nHost: h\r\nE:\r\nB: 1, 3\r\n\r\n")
	for name, want := range map[string]struct {
		first, all string
		is         bool
	}{
		"b": {"1", "1, , 1, 3", true}, "x": {"2", "2", true}, "host": {"h", "h", true}, "e": {"", "", true},
		"c": {}, "": {}, "hos": {}, "hostx": {}, " x": {}, "x ": {}, "1": {}, "B": {}, "Host": {},
	} {
		if v, is := r.Get(name); v != want.first || is != want.is {
			t.Errorf("Get(%q): %q, %t", name, v, is)
		}
		if v := r.All(name); v != want.all {
			t.Errorf("All(%q): %q", name, v)
		}
	}
}

func TestP242OfAnyRequest(t *testing.T) {
	if v, is := (Request{}).Get("a"); v != "" || is || (Request{}).All("a") != "" {
		t.Error("a request without fields has one")
	}
	r := Request{Fields: []Field{{"A", "1"}, {"", "2"}, {"a", ", "}, {"A", ""}, {"a", "3"}}}
	before := slices.Clone(r.Fields)
	for name, want := range map[string][2]string{"A": {"1", "1, "}, "": {"2", "2"}, "a": {", ", ", , 3"}} {
		if v, is := r.Get(name); v != want[0] || !is || r.All(name) != want[1] {
			t.Errorf("of %q: %q, %t, %q", name, v, is, r.All(name))
		}
	}
	if !slices.Equal(r.Fields, before) {
		t.Error("the request was changed")
	}
}

// stream is requests one behind the other, with empty lines between.
const stream = "\r\nGET /a?b HTTP/1.1\r\nHost: x\r\nX:  1 \r\nx:2\r\n\r\nHEAD / HTTP/1.0\r\n\r\n\r\n\r\nPOST /c HTTP/1.1\r\nHost:\r\nConnection: Close\r\n\r\nGET /d HTTP/1.3\r\nhost: y\r\n\r\n"

// all tells what Next tells, until there is nothing more.
func all(p *Parser) []told {
	var list []told
	for {
		a := next(p)
		if a.status == -1 {
			return list
		}
		list = append(list, a)
	}
}

func checkList(t *testing.T, what string, got, want []told) {
	t.Helper()
	if !slices.EqualFunc(got, want, told.same) {
		t.Fatalf("%.200s: %v; not %v", what, got, want)
	}
}

// ends are what may stand behind requests, and the status that is told of it.
var ends = map[string]int{
	"": 0, "\r\n": 0, "GE": 0, "a\n": 400, "a\rb": 400, "GET / HTTP/3.0\r\n\r\nx": 505, "PUSH / HTTP/1.0\r\n\r\n\n": 501,
	"\r\n" + strings.Repeat("a", 1100): 431, strings.Repeat("\r\n", 520): 431, strings.Repeat("a: b\r\n", 200) + "\n": 431, "GET /" + strings.Repeat("a", 128) + " HTTP/1.0\r\n\r\n\r": 414,
}

func TestP243Pieces(t *testing.T) {
	requests := []told{
		{r: Request{Method: "GET", Target: "/a?b", Minor: 1, Fields: []Field{{"host", "x"}, {"x", "1"}, {"x", "2"}}}},
		{r: Request{Method: "HEAD", Target: "/", Close: true}},
		{r: Request{Method: "POST", Target: "/c", Minor: 1, Fields: []Field{{"host", ""}, {"connection", "Close"}}, Close: true}},
		{r: Request{Method: "GET", Target: "/d", Minor: 1, Fields: []Field{{"host", "y"}}}},
	}
	for end, status := range ends {
		s, want := stream+end, slices.Clone(requests)
		if status != 0 {
			want = append(want, told{status: status})
		}
		checkList(t, s, all(fed(s)), want)
		checkList(t, s, all(fed(strings.Split(s, "")...)), want)
		for size := 1; size <= 40; size++ {
			p := New()
			var got []told
			for piece := range slices.Chunk([]byte(s), size) {
				p.Feed(piece)
				got = append(got, all(p)...)
			}
			checkList(t, s, got, want)
		}
		for i := range len(stream) {
			for _, j := range []int{i, i + 1, i + 2, (i + len(s)) / 2} {
				j = min(j, len(s))
				p := fed(s[:i])
				got := all(p)
				p.Feed([]byte(s[i:j]))
				got = append(got, all(p)...)
				p.Feed([]byte(s[j:]))
				checkList(t, s, append(got, all(p)...), want)
			}
		}
	}
}

// someStream is pieces that heads may have, most of them in their places.
func someStream(r *rand.Rand) string {
	var b strings.Builder
	one := func(of ...string) { b.WriteString(of[r.Intn(len(of))]) }
	for range r.Intn(6) {
		one("", "", "", "", "\r\n", "\r\n\r\n", "\r", "\n")
		one("GET", "GET", "HEAD", "POST", "FOO", "get", "")
		b.WriteString(" ")
		one("/", "/a?b", "*", "/", "/"+strings.Repeat("c", 127), "/"+strings.Repeat("c", 128), "", "\xff")
		one(" ", " ", " ", " ", " ", "  ")
		one("HTTP/1.1", "HTTP/1.1", "HTTP/1.1", "HTTP/1.0", "HTTP/1.2", "HTTP/2.0", "HTTP/x")
		one("\r\n", "\r\n", "\r\n", "\r\n", "\r\n", "\n")
		one("Host: x\r\n", "Host: x\r\n", "Host:\r\n", "HOST: \ty \r\n", "")
		for range r.Intn(4) {
			one("a: b\r\n", "A:\r\n", "Connection: close\r\n", "connection: Keep-Alive\r\n", "CONNECTION: a, CLOSE\r\n", "content-length: 0\r\n", "x:"+strings.Repeat("y", 200+r.Intn(400))+"\r\n", "x:"+strings.Repeat("y", 300)+"\r\n", "a: \xff\t\r\n")
		}
		if r.Intn(8) == 0 {
			one("host: x\r\n", "content-length: 1\r\n", "transfer-encoding: a\r\n", " a: b\r\n", "a\r\n", "a\r\r\n", "a\n", "a: \x00\r\n", strings.Repeat("z", 1000))
		}
		one("\r\n", "\r\n", "\r\n", "\r\n", "\r\n", "\r\n", "\r", "")
	}
	return b.String()
}

func TestP243Random(t *testing.T) {
	r := rand.New(rand.NewSource(24))
	for range 20000 {
		s := someStream(r)
		checkModel(t, s)
		p := New()
		held, over := "", false
		for left := s; left != ""; {
			n := 1 + r.Intn(min(len(left), 1+r.Intn(1500)))
			p.Feed([]byte(left[:n]))
			if !over {
				held += left[:n]
			}
			left = left[n:]
			for range r.Intn(4) {
				want, size := told{status: -1}, 0
				if !over {
					want, size = modelNext(held)
				}
				if held = held[size:]; want.status > 0 {
					held, over = "", true
				}
				if got := next(p); !got.same(want) {
					t.Fatalf("%.300q: %v; not %v", s, got, want)
				}
				if p.Held() != len(held) {
					t.Fatalf("%.300q: %d held, not %d", s, p.Held(), len(held))
				}
			}
		}
	}
}

func TestP243Many(t *testing.T) {
	const count = 40000
	p, q := New(), New()
	p.Feed([]byte(strings.Repeat(good, count)))
	for i := range count * len(good) {
		q.Feed([]byte{good[i%len(good)]})
	}
	for i := range count {
		if _, status := p.Next(); status != 0 || p.Held() != (count-1-i)*len(good) {
			t.Fatalf("request %d: %d, %d held", i, status, p.Held())
		}
		if _, status := q.Next(); status != 0 {
			t.Fatalf("request %d: %d", i, status)
		}
	}
	check(t, p, told{status: -1}, 0)
	check(t, q, told{status: -1}, 0)
}
