package civil

import (
	"math"
	"strings"
	"testing"
	"time"

	"pantler/api"
)

const (
	last   = 253402300799
	layout = "Mon, 02 Jan 2006 15:04:05 GMT" // for the library's calendar
)

// told are seconds, their dates, and how these are told.
func told() []struct {
	n int64
	d Date
	s string
} {
	return []struct {
		n int64
		d Date
		s string
	}{
		{0, Date{1970, 1, 1, 0, 0, 0, 4}, "Thu, 01 Jan 1970 00:00:00 GMT"},
		{1, Date{1970, 1, 1, 0, 0, 1, 4}, "Thu, 01 Jan 1970 00:00:01 GMT"},
		{59, Date{1970, 1, 1, 0, 0, 59, 4}, "Thu, 01 Jan 1970 00:00:59 GMT"},
		{60, Date{1970, 1, 1, 0, 1, 0, 4}, "Thu, 01 Jan 1970 00:01:00 GMT"},
		{3599, Date{1970, 1, 1, 0, 59, 59, 4}, "Thu, 01 Jan 1970 00:59:59 GMT"},
		{3600, Date{1970, 1, 1, 1, 0, 0, 4}, "Thu, 01 Jan 1970 01:00:00 GMT"},
		{86399, Date{1970, 1, 1, 23, 59, 59, 4}, "Thu, 01 Jan 1970 23:59:59 GMT"},
		{86400, Date{1970, 1, 2, 0, 0, 0, 5}, "Fri, 02 Jan 1970 00:00:00 GMT"},
		{3 * 86400, Date{1970, 1, 4, 0, 0, 0, 0}, "Sun, 04 Jan 1970 00:00:00 GMT"},
		{31*86400 - 1, Date{1970, 1, 31, 23, 59, 59, 6}, "Sat, 31 Jan 1970 23:59:59 GMT"},
		{31 * 86400, Date{1970, 2, 1, 0, 0, 0, 0}, "Sun, 01 Feb 1970 00:00:00 GMT"},
		{59 * 86400, Date{1970, 3, 1, 0, 0, 0, 0}, "Sun, 01 Mar 1970 00:00:00 GMT"},
		{365*86400 - 1, Date{1970, 12, 31, 23, 59, 59, 4}, "Thu, 31 Dec 1970 23:59:59 GMT"},
		{365 * 86400, Date{1971, 1, 1, 0, 0, 0, 5}, "Fri, 01 Jan 1971 00:00:00 GMT"},
		{94694399, Date{1972, 12, 31, 23, 59, 59, 0}, "Sun, 31 Dec 1972 23:59:59 GMT"},
		{784111777, Date{1994, 11, 6, 8, 49, 37, 0}, "Sun, 06 Nov 1994 08:49:37 GMT"},
		{951782399, Date{2000, 2, 28, 23, 59, 59, 1}, "Mon, 28 Feb 2000 23:59:59 GMT"},
		{951782400, Date{2000, 2, 29, 0, 0, 0, 2}, "Tue, 29 Feb 2000 00:00:00 GMT"},
		{951868800, Date{2000, 3, 1, 0, 0, 0, 3}, "Wed, 01 Mar 2000 00:00:00 GMT"},
		{4107542399, Date{2100, 2, 28, 23, 59, 59, 0}, "Sun, 28 Feb 2100 23:59:59 GMT"},
		{4107542400, Date{2100, 3, 1, 0, 0, 0, 1}, "Mon, 01 Mar 2100 00:00:00 GMT"},
		{last, Date{9999, 12, 31, 23, 59, 59, 5}, "Fri, 31 Dec 9999 23:59:59 GMT"},
	}
}

// noSeconds are numbers that are no seconds.
func noSeconds() []int64 {
	return []int64{-1, -86400, math.MinInt64, last + 1, last + 86400, math.MaxInt64}
}

func TestP31Of(t *testing.T) {
	for _, c := range told() {
		if d, e := Of(c.n); d != c.d || e != api.OK {
			t.Errorf("Of(%d): %v, %d; not %v", c.n, d, e, c.d)
		}
	}
	for _, n := range noSeconds() {
		if d, e := Of(n); d != (Date{}) || e != api.ErrArg {
			t.Errorf("Of(%d): %v, %d", n, d, e)
		}
	}
}

func TestP31Seconds(t *testing.T) {
	for _, c := range told() {
		if n, e := Seconds(c.d); n != c.n || e != api.OK {
			t.Errorf("Seconds(%v): %d, %d; not %d", c.d, n, e, c.n)
		}
	}
}

func TestP31SecondsErrors(t *testing.T) {
	wrong := []Date{
		{},
		{1969, 12, 31, 23, 59, 59, 3},
		{10000, 1, 1, 0, 0, 0, 6},
		{0, 1, 1, 0, 0, 0, 6},
		{-400, 1, 1, 0, 0, 0, 4},
		{2001, 2, 29, 0, 0, 0, 4},
		{2100, 2, 29, 0, 0, 0, 1},
		{2000, 2, 30, 0, 0, 0, 3},
		{1970, 1, 0, 0, 0, 0, 3},
		{1970, 1, 32, 0, 0, 0, 0},
		{1970, 2, 0, 0, 0, 0, 6},
		{1970, 4, 31, 0, 0, 0, 5},
		{1970, 0, 1, 0, 0, 0, 4},
		{1970, 13, 1, 0, 0, 0, 5},
		{1970, -1, 1, 0, 0, 0, 4},
		{1970, 1, 1, 24, 0, 0, 4},
		{1970, 1, 1, 24, 0, 0, 5},
		{1970, 1, 1, 0, 60, 0, 4},
		{1970, 1, 1, 0, 0, 60, 4},
		{1970, 1, 2, -1, 0, 0, 5},
		{1970, 1, 1, 1, -1, 0, 4},
		{1970, 1, 1, 0, 1, -1, 4},
		{1972, 12, 31, 23, 59, 60, 0},
	}
	for _, d := range wrong {
		// None of the weekdays makes good what is wrong besides.
		for w := range 8 {
			if n, e := Seconds(d); n != 0 || e != api.ErrDate {
				t.Errorf("Seconds(%v): %d, %d", d, n, e)
			}
			d.Weekday = w
		}
	}
}

func TestP31SecondsOfOtherWeekdays(t *testing.T) {
	for _, c := range told() {
		for w := -8; w < 16; w++ {
			d := c.d
			d.Weekday = w
			if n, e := Seconds(d); w != c.d.Weekday && (n != 0 || e != api.ErrDate) {
				t.Errorf("Seconds(%v): %d, %d", d, n, e)
			}
		}
	}
}

func TestP31SecondsOfNumbersAtTheirEnds(t *testing.T) {
	for _, x := range []int{math.MinInt, math.MinInt + 1, math.MinInt32, -1, math.MaxInt32, 1 << 32, 1<<32 + 1, math.MaxInt - 1, math.MaxInt} {
		good := Date{1994, 11, 6, 8, 49, 37, 0}
		for field := range 7 {
			d := good
			*[]*int{&d.Year, &d.Month, &d.Day, &d.Hour, &d.Minute, &d.Second, &d.Weekday}[field] = x
			if n, e := Seconds(d); n != 0 || e != api.ErrDate {
				t.Errorf("Seconds(%v): %d, %d", d, n, e)
			}
		}
		if n, e := Seconds(Date{x, x, x, x, x, x, x}); n != 0 || e != api.ErrDate {
			t.Errorf("Seconds of seven times %d: %d, %d", x, n, e)
		}
	}
}

func TestP31Leap(t *testing.T) {
	for _, year := range []int{1972, 1996, 2000, 2004, 2400, 9996, 1600, 4, 400, 0, -4, -400, math.MinInt} {
		if !Leap(year) {
			t.Errorf("Leap(%d)", year)
		}
	}
	for _, year := range []int{1970, 1971, 1973, 1995, 1900, 2100, 2200, 2300, 9999, 9900, 1, 2, 100, -1, -100, math.MaxInt} {
		if Leap(year) {
			t.Errorf("not Leap(%d)", year)
		}
	}
}

func TestP32Print(t *testing.T) {
	for _, c := range told() {
		if s, e := Print(c.n); s != c.s || e != api.OK {
			t.Errorf("Print(%d): %q, %d; not %q", c.n, s, e, c.s)
		}
	}
	for _, n := range noSeconds() {
		if s, e := Print(n); s != "" || e != api.ErrArg {
			t.Errorf("Print(%d): %q, %d", n, s, e)
		}
	}
}

func TestP32Names(t *testing.T) {
	days := []string{"Thu", "Fri", "Sat", "Sun", "Mon", "Tue", "Wed"}
	for i, day := range days {
		if s, _ := Print(int64(i) * 86400); !strings.HasPrefix(s, day+", ") {
			t.Errorf("the day %d: %q, not %s", i, s, day)
		}
	}
	n := int64(14 * 86400)
	for _, month := range []string{"Jan", "Feb", "Mar", "Apr", "May", "Jun", "Jul", "Aug", "Sep", "Oct", "Nov", "Dec"} {
		if s, _ := Print(n); len(s) != 29 || s[8:11] != month {
			t.Errorf("%d: %q, not in %s", n, s, month)
		}
		n += 365 * 86400 / 12
	}
}

func TestP32Parse(t *testing.T) {
	for _, c := range told() {
		if n, e := Parse(c.s); n != c.n || e != api.OK {
			t.Errorf("Parse(%q): %d, %d; not %d", c.s, n, e, c.n)
		}
	}
}

func TestP32ParseErrors(t *testing.T) {
	wrong := []string{
		"", " ", "GMT", "Sun", "784111777",
		"Sun, 6 Nov 1994 08:49:37 GMT",
		"Sun,  6 Nov 1994 08:49:37 GMT",
		"Sun, +6 Nov 1994 08:49:37 GMT",
		"Sun, 06 nov 1994 08:49:37 GMT",
		"Sun, 06 NOV 1994 08:49:37 GMT",
		"sun, 06 Nov 1994 08:49:37 GMT",
		"Son, 06 Nov 1994 08:49:37 GMT",
		"Sun, 06 Nuv 1994 08:49:37 GMT",
		"Mon, 06 Nov 1994 08:49:37 GMT",
		"Sat, 06 Nov 1994 08:49:37 GMT",
		"Sun, 06 Nov 1994 08:49:37 UTC",
		"Sun, 06 Nov 1994 08:49:37 gmt",
		"Sun, 06 Nov 1994 08:49:37",
		"Sun, 06 Nov 1994 08:49:37 ",
		"Sun, 06 Nov 1994 08:49:37 GMT ",
		" Sun, 06 Nov 1994 08:49:37 GMT",
		"Sun, 06 Nov 1994 08:49:37 GMT\n",
		"Sun, 06 Nov 1994 08:49:3x GMT",
		"Sun, 06 Nov 1994 08:49:-1 GMT",
		"Sun, 06 Nov 1994 08:-1:37 GMT",
		"Sun, 06 Nov +994 08:49:37 GMT",
		"Sun, 06 Nov 199\u0664 08:49:37 GMT",
		"Sun, 06 Nov 19\u0664 08:49:37 GMT",
		"Sun, 06 Nov 1994 8:49:37 GMT",
		"Sunday, 06-Nov-94 08:49:37 GMT",
		"Sun Nov  6 08:49:37 1994",
		"Sun, 06 Nov 94 08:49:37 GMT",
		"Thu, 01 Jan 1970 24:00:00 GMT",
		"Thu, 01 Jan 1970 00:60:00 GMT",
		"Thu, 01 Jan 1970 00:00:60 GMT",
		"Sun, 31 Dec 1972 23:59:60 GMT",
		"Wed, 31 Dec 1969 23:59:59 GMT",
		"Sat, 01 Jan 0000 00:00:00 GMT",
		"Sat, 01 Jan 10000 00:00:00 GMT",
		"Thu, 29 Feb 2001 00:00:00 GMT",
		"Mon, 29 Feb 2100 00:00:00 GMT",
		"Wed, 00 Jan 1970 00:00:00 GMT",
		"Sun, 32 Jan 1970 00:00:00 GMT",
		"Fri, 31 Apr 1970 00:00:00 GMT",
		strings.Repeat("0", 29),
		strings.Repeat("\xff", 29),
		strings.Repeat("\x00", 29),
		strings.Repeat("Sun, 06 Nov 1994 08:49:37 GMT", 1<<12),
	}
	for _, s := range wrong {
		if n, e := Parse(s); n != 0 || e != api.ErrDate {
			t.Errorf("Parse(%.40q): %d, %d", s, n, e)
		}
	}
}

// libraryParse tells what the library's calendar reads of s, as far as it tells the same of it again.
func libraryParse(s string) (int64, api.Errno) {
	at, err := time.Parse(layout, s)
	if err != nil || at.UTC().Format(layout) != s || at.Unix() < 0 {
		return 0, api.ErrDate
	}
	return at.Unix(), api.OK
}

// Whatever byte stands at whatever place, only what Print tells is read.
func TestP32ParseOfSpoiltTexts(t *testing.T) {
	const good = "Tue, 29 Feb 2000 09:10:11 GMT"
	for at := range good {
		if n, e := Parse(good[:at]); n != 0 || e != api.ErrDate {
			t.Errorf("Parse(%q): %d, %d", good[:at], n, e)
		}
		for c := range 256 {
			s := good[:at] + string([]byte{byte(c)}) + good[at+1:]
			want, f := libraryParse(s)
			if n, e := Parse(s); n != want || e != f {
				t.Errorf("Parse(%q): %d, %d; not %d, %d", s, n, e, want, f)
			}
		}
	}
}

// checkSecond holds all that is told of the second n against the library's calendar.
func checkSecond(t *testing.T, n int64) {
	t.Helper()
	at := time.Unix(n, 0).UTC()
	want := Date{at.Year(), int(at.Month()), at.Day(), at.Hour(), at.Minute(), at.Second(), int(at.Weekday())}
	d, e := Of(n)
	if d != want || e != api.OK {
		t.Fatalf("Of(%d): %v, %d; not %v", n, d, e, want)
	}
	if back, e := Seconds(d); back != n || e != api.OK {
		t.Fatalf("%d is %v, and comes back as %d, %d", n, d, back, e)
	}
	s, e := Print(n)
	if text := at.Format(layout); s != text || e != api.OK {
		t.Fatalf("Print(%d): %q, %d; not %q", n, s, e, text)
	}
	if back, e := Parse(s); back != n || e != api.OK {
		t.Fatalf("%d is told %q, and comes back as %d, %d", n, s, back, e)
	}
}

func TestP33DatesComeBack(t *testing.T) {
	for n := int64(0); n < 140*366*86400; n += 86400 {
		checkSecond(t, n)
		checkSecond(t, n+86399)
	}
	seed := uint64(1)
	for range 2000 {
		seed = seed*6364136223846793005 + 1442695040888963407
		checkSecond(t, int64(seed>>11)%(last+1))
	}
}

func TestP33EndsOfMonthsOfAllYears(t *testing.T) {
	for year := 1970; year <= 9999; year++ {
		month := time.Month(year%12 + 1)
		for _, m := range []time.Month{1, 3, month} {
			n := time.Date(year, m, 1, 0, 0, 0, 0, time.UTC).Unix()
			if n > 0 {
				checkSecond(t, n-1)
			}
			checkSecond(t, n)
		}
	}
}

func TestP33ADayLaterIsTheNextWeekday(t *testing.T) {
	for n := int64(0); n+86400 <= last; n += 86400*97 + 12345 {
		d, _ := Of(n)
		later, e := Of(n + 86400)
		if e != api.OK || later.Weekday != (d.Weekday+1)%7 {
			t.Fatalf("%d: %v; a day later %v, %d", n, d, later, e)
		}
		if later.Hour != d.Hour || later.Minute != d.Minute || later.Second != d.Second {
			t.Fatalf("%d: %v; a day later %v", n, d, later)
		}
	}
}
