package octet

import (
	"bytes"
	"math"
	"strconv"
	"strings"
	"testing"

	"pantler/api"
)

func TestP21Put(t *testing.T) {
	tests := []struct {
		b     []byte
		n     uint64
		width int
		want  []byte
		e     api.Errno
	}{
		{nil, 0, 1, []byte{0}, api.OK},
		{[]byte{}, 0, 2, []byte{0, 0}, api.OK},
		{[]byte{9}, 0x010203, 3, []byte{9, 1, 2, 3}, api.OK},
		{[]byte{9, 8}, 1, 4, []byte{9, 8, 0, 0, 0, 1}, api.OK},
		{nil, 255, 1, []byte{255}, api.OK},
		{nil, 256, 1, nil, api.ErrArg},
		{nil, 256, 2, []byte{1, 0}, api.OK},
		{nil, 1<<56 - 1, 7, bytes.Repeat([]byte{255}, 7), api.OK},
		{nil, 1 << 56, 7, nil, api.ErrArg},
		{nil, math.MaxUint64, 8, bytes.Repeat([]byte{255}, 8), api.OK},
		{nil, math.MaxUint64, 7, nil, api.ErrArg},
		{nil, 0x0102030405060708, 8, []byte{1, 2, 3, 4, 5, 6, 7, 8}, api.OK},
		{[]byte{1}, 0, 0, nil, api.ErrArg},
		{[]byte{1}, 1, 0, nil, api.ErrArg},
		{[]byte{1}, 0, 9, nil, api.ErrArg},
		{[]byte{1}, 0, -1, nil, api.ErrArg},
		{[]byte{1}, 0, math.MaxInt, nil, api.ErrArg},
		{[]byte{1}, 0, math.MinInt, nil, api.ErrArg},
	}
	for _, c := range tests {
		got, e := Put(c.b, c.n, c.width)
		if !bytes.Equal(got, c.want) || e != c.e {
			t.Errorf("Put(%v, %d, %d): %v, %d; not %v, %d", c.b, c.n, c.width, got, e, c.want, c.e)
		}
	}
}

func TestP21PutInNewMemory(t *testing.T) {
	b := make([]byte, 2, 64)
	one, _ := Put(b, 1, 1)
	two, _ := Put(b, 2, 1)
	one[0] = 7
	if !bytes.Equal(one, []byte{7, 0, 1}) || !bytes.Equal(two, []byte{0, 0, 2}) || b[0] != 0 || b[:3][2] != 0 {
		t.Errorf("Put shares memory: %v, %v, %v", b[:3], one, two)
	}
}

func TestP21Num(t *testing.T) {
	b := make([]byte, 36)
	for i := range b {
		b[i] = byte(200 + i)
	}
	e := New(b)
	at := 0
	for width := 1; width <= 8; width++ {
		want := uint64(0)
		for _, c := range b[at : at+width] {
			want = want*256 + uint64(c)
		}
		at += width
		if n := e.Num(width); n != want || e.Rest() != len(b)-at || e.Err() != api.OK {
			t.Errorf("Num(%d): %d, not %d; %d are left, %d", width, n, want, e.Rest(), e.Err())
		}
	}
	if e.Done() != api.OK {
		t.Errorf("Done: %d", e.Done())
	}
}

func TestP21NumErrors(t *testing.T) {
	tests := []struct {
		have, width int
		e           api.Errno
	}{
		{9, 0, api.ErrArg},
		{9, 9, api.ErrArg},
		{9, -1, api.ErrArg},
		{9, math.MaxInt, api.ErrArg},
		{9, math.MinInt, api.ErrArg},
		{0, 0, api.ErrArg},
		{0, 9, api.ErrArg}, // what can't be is told ahead of what isn't there
		{0, 1, api.ErrForm},
		{1, 2, api.ErrForm},
		{7, 8, api.ErrForm},
		{1, 1, api.OK},
		{8, 8, api.OK},
	}
	for _, c := range tests {
		e := New(make([]byte, c.have))
		if n := e.Num(c.width); n != 0 || e.Err() != c.e || e.Done() != c.e {
			t.Errorf("Num(%d) of %d: %d, %d; not %d", c.width, c.have, n, e.Err(), c.e)
		}
		if c.e != api.OK && e.Rest() != 0 {
			t.Errorf("Num(%d) of %d: %d are left behind the error", c.width, c.have, e.Rest())
		}
	}
}

func TestP21Bytes(t *testing.T) {
	e := New([]byte{1, 2, 3, 4, 5})
	for _, want := range [][]byte{{1, 2}, {}, {3}, {4, 5}, {}} {
		if got := e.Bytes(len(want)); !bytes.Equal(got, want) || e.Err() != api.OK {
			t.Errorf("Bytes(%d): %v, %d", len(want), got, e.Err())
		}
	}
	if e.Done() != api.OK {
		t.Errorf("Done: %d", e.Done())
	}
}

func TestP21BytesErrors(t *testing.T) {
	tests := []struct {
		have, n int
		e       api.Errno
	}{
		{3, -1, api.ErrArg},
		{0, -1, api.ErrArg},
		{3, math.MinInt, api.ErrArg},
		{3, 4, api.ErrForm},
		{0, 1, api.ErrForm},
		{3, math.MaxInt, api.ErrForm},
	}
	for _, c := range tests {
		e := New(make([]byte, c.have))
		if b := e.Bytes(c.n); len(b) != 0 || e.Err() != c.e || e.Done() != c.e || e.Rest() != 0 {
			t.Errorf("Bytes(%d) of %d: %v, %d, %d, %d", c.n, c.have, b, e.Err(), e.Done(), e.Rest())
		}
	}
}

func TestP21FirstErrorStays(t *testing.T) {
	e := New([]byte{1, 2, 3})
	if e.Num(0) != 0 || e.Err() != api.ErrArg {
		t.Fatalf("Num(0): %d", e.Err())
	}
	if e.Num(1) != 0 || e.Num(8) != 0 || len(e.Bytes(1)) != 0 || len(e.Bytes(9)) != 0 || len(e.Bytes(0)) != 0 {
		t.Error("something was read behind an error")
	}
	if e.Err() != api.ErrArg || e.Done() != api.ErrArg || e.Rest() != 0 {
		t.Errorf("the first error: %d, %d; %d are left", e.Err(), e.Done(), e.Rest())
	}
	e = New([]byte{1, 2, 3})
	if e.Num(4) != 0 || e.Num(0) != 0 || len(e.Bytes(-1)) != 0 || e.Err() != api.ErrForm || e.Done() != api.ErrForm {
		t.Errorf("the first error: %d, %d", e.Err(), e.Done())
	}
}

func TestP21DoneChangesNothing(t *testing.T) {
	e := New([]byte{1, 2})
	if e.Done() != api.ErrForm || e.Err() != api.OK || e.Rest() != 2 {
		t.Errorf("Done: %d, %d, %d", e.Done(), e.Err(), e.Rest())
	}
	if n := e.Num(2); n != 258 || e.Done() != api.OK || e.Err() != api.OK || e.Rest() != 0 {
		t.Errorf("behind Done: %d, %d", n, e.Done())
	}
	e = New([]byte{1, 2})
	if e.Num(1) != 1 || e.Done() != api.ErrForm || e.Rest() != 1 || e.Num(1) != 2 || e.Done() != api.OK {
		t.Errorf("one is left: %d, %d", e.Done(), e.Rest())
	}
	for _, none := range [][]byte{nil, {}} {
		if e = New(none); e == nil || e.Done() != api.OK || e.Err() != api.OK || e.Rest() != 0 {
			t.Errorf("of nothing: %d, %d, %d", e.Done(), e.Err(), e.Rest())
		}
	}
}

func TestP21EyeHasItsOwnMemory(t *testing.T) {
	b := []byte{1, 2, 3, 4}
	e := New(b)
	b[0], b[1] = 9, 9
	first := e.Bytes(2)
	if !bytes.Equal(first, []byte{1, 2}) {
		t.Errorf("bytes as they were: %v", first)
	}
	for i := range first[:cap(first)] {
		first[:cap(first)][i] = 7
	}
	if rest := e.Bytes(2); !bytes.Equal(rest, []byte{3, 4}) || !bytes.Equal(b, []byte{9, 9, 3, 4}) {
		t.Errorf("what was told is not the caller's: %v, %v", rest, b)
	}
}

func TestP21TwoHoldOneEye(t *testing.T) {
	e := New([]byte{1, 2, 3})
	same := e
	if e.Num(1) != 1 || same.Num(1) != 2 || e.Rest() != 1 {
		t.Error("one reader, held twice")
	}
}

func TestP21NilEye(t *testing.T) {
	var e *Eye
	if e.Num(1) != 0 || e.Num(0) != 0 || e.Bytes(1) != nil || e.Bytes(-1) != nil || e.Bytes(0) != nil || e.Rest() != 0 {
		t.Error("something was read of nil")
	}
	if e.Err() != api.ErrForm || e.Done() != api.ErrForm {
		t.Errorf("of nil: %d, %d", e.Err(), e.Done())
	}
}

func TestP22IP(t *testing.T) {
	tests := []struct {
		a uint32
		s string
	}{
		{0, "0.0.0.0"},
		{3232235777, "192.168.1.1"},
		{10<<24 | 200<<16 | 9, "10.200.0.9"},
		{1, "0.0.0.1"},
		{1 << 24, "1.0.0.0"},
		{math.MaxUint32, "255.255.255.255"},
		{99<<24 | 100<<16 | 19<<8 | 20, "99.100.19.20"},
	}
	for _, c := range tests {
		if s := IP(c.a); s != c.s {
			t.Errorf("IP(%d): %q, not %q", c.a, s, c.s)
		}
		if a, e := ParseIP(c.s); a != c.a || e != api.OK {
			t.Errorf("ParseIP(%q): %d, %d", c.s, a, e)
		}
	}
}

func TestP22ParseIPErrors(t *testing.T) {
	wrong := []string{
		"", ".", "...", "....", "1", "1.2.3", "1.2.3.", ".1.2.3", "1..2.3", "1.2.3.4.", ".1.2.3.4", "1.2.3.4.5",
		"256.0.0.0", "0.0.0.256", "1.2.300.4", "1.2.3.1000", "1.2.3.4294967296", "1.2.3.18446744073709551616",
		"01.2.3.4", "1.2.3.04", "1.00.3.4", "1.2.000.4", "1.2.3.x", "a.b.c.d", "1.2.3.0x4", "1.2.3.+4", "+1.2.3.4",
		"1.2.3.-4", "1.2.3.-0", " 1.2.3.4", "1.2.3.4 ", "1. 2.3.4", "1.2.3.4\n", "1.2.3.4\x00", "1,2,3,4", "1:2:3:4",
		"1.2.3.1_0", "1.2.3.\u0664", "\xff.2.3.4", "1.2.3.1e1", "0000000001.2.3.4", strings.Repeat("1.", 1<<16),
		strings.Repeat("0", 1<<16) + "1.2.3.4",
	}
	for _, s := range wrong {
		if a, e := ParseIP(s); a != 0 || e != api.ErrForm {
			t.Errorf("ParseIP(%.40q): %d, %d", s, a, e)
		}
	}
}

func TestP22MAC(t *testing.T) {
	tests := []struct {
		a uint64
		s string
	}{
		{0, "00:00:00:00:00:00"},
		{1, "00:00:00:00:00:01"},
		{0x0200000000ff, "02:00:00:00:00:ff"},
		{0x0123456789ab, "01:23:45:67:89:ab"},
		{0xcdef00000000, "cd:ef:00:00:00:00"},
		{1<<48 - 1, "ff:ff:ff:ff:ff:ff"},
	}
	for _, c := range tests {
		if s, e := MAC(c.a); s != c.s || e != api.OK {
			t.Errorf("MAC(%#x): %q, %d; not %q", c.a, s, e, c.s)
		}
		if a, e := ParseMAC(c.s); a != c.a || e != api.OK {
			t.Errorf("ParseMAC(%q): %#x, %d", c.s, a, e)
		}
	}
	for _, a := range []uint64{1 << 48, 1<<48 + 1, 1 << 63, math.MaxUint64} {
		if s, e := MAC(a); s != "" || e != api.ErrArg {
			t.Errorf("MAC(%#x): %q, %d", a, s, e)
		}
	}
}

func TestP22ParseMACErrors(t *testing.T) {
	wrong := []string{
		"", ":", ":::::", "00", "00:00:00:00:00", "00:00:00:00:00:", ":00:00:00:00:00", "00:00:00:00:00:00:",
		"00:00:00:00:00:00:00", "000000000000", "00-00-00-00-00-00", "00.00.00.00.00.00",
		"0:00:00:00:00:00", "00:00:00:00:00:0", "000:00:00:00:00:00", "0:000:00:00:00:00", "00:00:00:00:00:100",
		"02:00:00:00:00:FF", "02:00:00:00:00:fF", "A2:00:00:00:00:00", "0g:00:00:00:00:00", "x0:00:00:00:00:00",
		"0x:00:00:00:00:00", "+1:00:00:00:00:00", "-1:00:00:00:00:00", "-0:00:00:00:00:00", " 0:00:00:00:00:00",
		"0 :00:00:00:00:00", " 00:00:00:00:00:00", "00:00:00:00:00:00 ", "00:00:00:00:00:00\n", "00:00:00:00:00::00",
		"\xff\xff:00:00:00:00:00", "\u0660:00:00:00:00:00", "_1:00:00:00:00:00", strings.Repeat("00:", 1<<16),
	}
	for _, s := range wrong {
		if a, e := ParseMAC(s); a != 0 || e != api.ErrForm {
			t.Errorf("ParseMAC(%.40q): %#x, %d", s, a, e)
		}
	}
}

func TestP23WhatIsPutIsReadAgain(t *testing.T) {
	type put struct {
		n     uint64
		width int
	}
	var puts []put
	var b []byte
	n := uint64(0x9e3779b97f4a7c15)
	for i := range 400 {
		width := i%8 + 1
		n = n*6364136223846793005 + 1442695040888963407
		p := put{n >> (64 - 8*width), width}
		if i%5 == 0 {
			p.n = 0
		}
		puts = append(puts, p)
		var e api.Errno
		if b, e = Put(b, p.n, p.width); e != api.OK {
			t.Fatalf("Put(%d, %d): %d", p.n, p.width, e)
		}
	}
	e := New(b)
	for _, p := range puts {
		if got := e.Num(p.width); got != p.n {
			t.Fatalf("Num(%d): %d, not %d", p.width, got, p.n)
		}
	}
	if e.Done() != api.OK {
		t.Errorf("Done: %d", e.Done())
	}
	if got := New(b).Bytes(len(b)); !bytes.Equal(got, b) {
		t.Error("Bytes of all of it")
	}
}

func TestP23AddressesComeBack(t *testing.T) {
	n := uint64(1)
	for i := range 2000 {
		n = n*6364136223846793005 + 1442695040888963407
		ip, mac := uint32(n>>32), n>>16
		if i < 256 {
			ip, mac = uint32(i)*0x01010101, uint64(i)*0x010101010101
		}
		if a, e := ParseIP(IP(ip)); a != ip || e != api.OK {
			t.Fatalf("%d is told %q, and comes back as %d, %d", ip, IP(ip), a, e)
		}
		s, _ := MAC(mac)
		if a, e := ParseMAC(s); a != mac || e != api.OK {
			t.Fatalf("%#x is told %q, and comes back as %#x, %d", mac, s, a, e)
		}
	}
}

func TestP23EachByteIsToldInOneWay(t *testing.T) {
	for i := range 1100 {
		s := "1.2.3." + strconv.Itoa(i)
		a, e := ParseIP(s)
		if i > 255 {
			if a != 0 || e != api.ErrForm {
				t.Errorf("ParseIP(%q): %d, %d", s, a, e)
			}
			continue
		}
		if a != uint32(0x01020300+i) || e != api.OK {
			t.Errorf("ParseIP(%q): %#x, %d", s, a, e)
		}
	}
}
