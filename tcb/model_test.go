package tcb

import (
	"bytes"
	"math/rand"
	"slices"
	"testing"

	"pantler/api"
	"pantler/seg"
)

// model is a connection by the chapter's words, one sentence behind the other. It calls none of the layers below.
type model struct {
	state, una, nxt, end, win, mss int
	iss, irs                       uint32
	told                           int // the MSS that Accept sent
	closed, finWasSent             bool

	room, next int
	bytes      map[int]byte // what came, by its place
	done       bool
	fin        int
	finKnown   bool

	timer, tries, dups int
	smooth, swing      int
	sampled            bool
	wait               int
	isTimed            bool
	timed, ticks       int
	isDue              bool
	dueIn              int
	rest               int

	out []Out // what this call sent
}

func (m *model) ready() int {
	n := 0
	for {
		if _, is := m.bytes[m.next+n]; !is {
			return n
		}
		n++
	}
}

func (m *model) expectedPlace() int {
	n := m.next + m.ready()
	if m.done {
		n++
	}
	return n
}

func (m *model) expected() uint32 {
	return m.irs + 1 + uint32(m.expectedPlace())
}

func (m *model) window() int {
	return m.room - m.ready()
}

func (m *model) send(o Out) {
	o.Ack, o.Window = m.expected(), m.window()
	m.out = append(m.out, o)
	m.isDue = false
}

func (m *model) plainAck() {
	m.send(Out{Flags: 16, Seq: m.iss + 1 + uint32(m.nxt)})
}

func (m *model) sendBytes(from, n int) {
	flags := 16
	if from+n == m.end {
		flags = 24
	}
	m.send(Out{Flags: flags, Seq: m.iss + 1 + uint32(from), From: from, Len: n})
}

func (m *model) push() {
	if m.state == 2 || m.state == 3 {
		for m.nxt < m.end && m.nxt < m.una+m.win {
			n := min(m.mss, m.end-m.nxt, m.una+m.win-m.nxt)
			m.sendBytes(m.nxt, n)
			if !m.isTimed {
				m.isTimed, m.timed, m.ticks = true, m.nxt, 0
			}
			m.nxt += n
			if m.timer == 0 {
				m.timer = m.wait
			}
		}
		if m.closed && m.nxt == m.end && !m.finWasSent {
			m.send(Out{Flags: 17, Seq: m.iss + 1 + uint32(m.nxt)})
			m.finWasSent = true
			m.nxt++
			if m.timer == 0 {
				m.timer = m.wait
			}
			m.state = map[int]int{2: 4, 3: 7}[m.state]
		}
		if m.nxt < m.end && m.una == m.nxt && m.timer == 0 {
			m.timer = m.wait
		}
	}
	m.atTheEnd()
}

func (m *model) atTheEnd() {
	if m.isDue && m.dueIn == 0 {
		m.plainAck()
	}
}

func (m *model) sendAgain() {
	if m.state == 1 {
		m.send(Out{Flags: 18, Seq: m.iss, MSS: m.told})
	} else if m.una < m.nxt && m.una < m.end {
		m.sendBytes(m.una, min(m.mss, m.nxt-m.una, m.end-m.una))
	} else if m.finWasSent && m.una == m.end {
		m.send(Out{Flags: 17, Seq: m.iss + 1 + uint32(m.end)})
	} else if m.nxt < m.end {
		m.sendBytes(m.nxt, 1)
		m.nxt++
	}
	m.isTimed = false
}

func modelOf(iss uint32, s seg.Seg, mss, room int) *model {
	m := &model{state: 1, iss: iss, irs: s.Seq, win: int(s.Window), mss: min(mss, 536), told: mss, room: room, bytes: map[int]byte{}, timer: 4, wait: 4}
	if s.MSS >= 1 {
		m.mss = min(mss, s.MSS)
	}
	m.send(Out{Flags: 18, Seq: iss, MSS: mss})
	return m
}

// within tells whether x is one of the n numbers from first on.
func within(x, first uint32, n int) bool {
	return uint64(x-first) < uint64(n)
}

// near tells the place nearest to another one whose rest by 2^32 is that of x.
func near(x uint32, place int) int {
	return place + int(int32(x-uint32(place)))
}

func (m *model) in(s seg.Seg) {
	if m.state == 0 {
		return
	}
	n := len(s.Data) + s.Flags>>1&1 + s.Flags&1
	first := m.expected()
	fits := within(s.Seq, first, m.window()) || n > 0 && within(s.Seq+uint32(n)-1, first, m.window()) || n == 0 && m.window() == 0 && s.Seq == first
	if !fits {
		if s.Flags&4 != 0 {
			return
		}
		if m.state == 8 && s.Flags&1 != 0 {
			m.rest = 8
		}
		m.plainAck()
		return
	}
	if s.Flags&4 != 0 {
		if s.Seq == first {
			m.state = 0
			return
		}
		m.plainAck()
		return
	}
	if s.Flags&2 != 0 {
		m.plainAck()
		return
	}
	if s.Flags&16 == 0 {
		return
	}
	a := near(s.Ack-m.iss-1, m.una)
	if m.state == 1 {
		if a != 0 {
			m.out = append(m.out, Out{Flags: 4, Seq: s.Ack})
			m.isDue = false
			return
		}
		m.state, m.timer, m.tries = 2, 0, 0
	} else if a > m.nxt {
		m.plainAck()
		return
	} else if a >= m.una {
		m.acked(s, a)
	}
	if a >= m.una {
		m.win = int(s.Window)
	}
	if m.finWasSent && m.una > m.end {
		switch m.state {
		case 4:
			m.state = 5
		case 6:
			m.state, m.rest = 8, 8
		case 7:
			m.state = 0
			return
		}
	}
	m.data(s)
	m.push()
}

func (m *model) acked(s seg.Seg, a int) {
	m.tries = 0
	if a == m.una {
		if m.una < m.nxt && len(s.Data) == 0 && s.Flags&1 == 0 && int(s.Window) == m.win {
			m.dups++
			if m.dups == 3 {
				m.sendAgain()
			}
		}
		return
	}
	m.una, m.dups = a, 0
	if m.isTimed && m.timed < a {
		m.sample(m.ticks)
		m.isTimed = false
	}
	m.timer = 0
	if m.una < m.nxt {
		m.timer = m.wait
	}
}

func (m *model) sample(ticks int) {
	ticks = min(ticks, 64)
	if !m.sampled {
		m.sampled = true
		m.smooth, m.swing = 8*ticks, 2*ticks
	} else {
		d := ticks - m.smooth/8
		m.smooth += d
		m.swing += max(d, -d) - m.swing/4
	}
	m.wait = min(max(m.smooth/8+max(1, m.swing), 2), 64)
}

func (m *model) data(s seg.Seg) {
	if m.state != 2 && m.state != 4 && m.state != 5 {
		return
	}
	place := near(s.Seq-m.irs-1, m.expectedPlace())
	if len(s.Data) > 0 {
		kept := 0
		for i, c := range s.Data {
			at := place + i
			if _, is := m.bytes[at]; !is && at >= m.next && at < m.next+m.room {
				m.bytes[at] = c
				kept++
			}
		}
		if kept < len(s.Data) || len(m.bytes) > m.ready() || m.isDue {
			m.isDue, m.dueIn = true, 0
		} else {
			m.isDue, m.dueIn = true, 2
		}
	}
	if s.Flags&1 != 0 {
		m.finKnown, m.fin = true, place+len(s.Data)
	}
	if m.finKnown && m.fin == m.expectedPlace() && !m.done {
		m.done = true
		m.isDue, m.dueIn = true, 0
		m.state = map[int]int{2: 3, 4: 6, 5: 8}[m.state]
		if m.state == 8 {
			m.rest = 8
		}
	}
}

func (m *model) tick() {
	if m.state == 0 {
		return
	}
	if m.state == 8 {
		m.rest--
		if m.rest == 0 {
			m.state = 0
			return
		}
	}
	if m.isDue && m.dueIn > 0 {
		m.dueIn--
	}
	if m.isTimed {
		m.ticks++
	}
	if m.timer > 0 {
		m.timer--
		if m.timer == 0 {
			m.tries++
			if m.tries > 6 {
				m.abort()
				return
			}
			m.wait = min(2*m.wait, 64)
			m.sendAgain()
			m.timer = m.wait
		}
	}
	m.atTheEnd()
}

func (m *model) write(n int) api.Errno {
	if m.state != 2 && m.state != 3 || m.closed {
		return 90
	}
	if n < 0 || n > 1048576 {
		return 1
	}
	m.end += n
	m.push()
	return 0
}

func (m *model) close() api.Errno {
	if m.state == 0 || m.closed {
		return 90
	}
	m.closed = true
	m.push()
	return 0
}

func (m *model) read() []byte {
	was := m.window()
	var b []byte
	for n := m.ready(); n > 0; n-- {
		b = append(b, m.bytes[m.next])
		delete(m.bytes, m.next)
		m.next++
	}
	if was == 0 && m.window() != 0 && m.state != 0 {
		m.isDue, m.dueIn = true, 0
	}
	m.atTheEnd()
	return b
}

func (m *model) abort() {
	if m.state != 0 {
		m.send(Out{Flags: 20, Seq: m.iss + 1 + uint32(m.nxt)})
		m.state = 0
	}
}

// The kinds of calls.
const (
	doIn = iota
	doTick
	doWrite
	doClose
	doRead
	doAbort
)

// call is a call of a connection.
type call struct {
	kind int
	s    seg.Seg
	n    int
}

// start is what Accept is handed.
type start struct {
	iss       uint32
	s         seg.Seg
	mss, room int
}

// pair is a connection beside its model, and all that was done to them, to be told where they part.
type pair struct {
	t     testing.TB
	x     *TCB
	m     *model
	start start
	calls []call
}

func pairOf(t testing.TB, c start) *pair {
	t.Helper()
	x, out, e := Accept(c.iss, c.s, c.mss, c.room)
	if x == nil || e != api.OK {
		t.Fatalf("Accept(%+v): %v, %d", c, x, e)
	}
	p := &pair{t: t, x: x, m: modelOf(c.iss, c.s, c.mss, c.room), start: c}
	p.compare(out)
	return p
}

// compare holds what a call sent, and what the connection tells of itself, against the model.
func (p *pair) compare(out []Out) {
	p.t.Helper()
	una, nxt, end := p.x.Places()
	m := p.m
	if !slices.Equal(out, m.out) || p.x.State() != m.state || una != min(m.una, m.end) || nxt != m.nxt || end != m.end || p.x.Done() != m.done {
		p.t.Fatalf("%+v\n%+v\nsent %+v\nnot  %+v\nstate %d, not %d; done %t; %d %d %d, not %d %d %d",
			p.start, p.calls, out, m.out, p.x.State(), m.state, p.x.Done(), una, nxt, end, min(m.una, m.end), m.nxt, m.end)
	}
	m.out = nil
}

func (p *pair) do(c call) {
	p.t.Helper()
	p.calls = append(p.calls, c)
	var out []Out
	var e, want api.Errno
	switch c.kind {
	case doIn:
		p.m.in(c.s)
		out = p.x.In(c.s)
	case doTick:
		p.m.tick()
		out = p.x.Tick()
	case doWrite:
		want = p.m.write(c.n)
		out, e = p.x.Write(c.n)
	case doClose:
		want = p.m.close()
		out, e = p.x.Close()
	case doRead:
		b := p.m.read()
		var got []byte
		if got, out = p.x.Read(); !bytes.Equal(got, b) {
			p.t.Fatalf("%+v\n%+v\nread %q, not %q", p.start, p.calls, got, b)
		}
	case doAbort:
		p.m.abort()
		out = p.x.Abort()
	}
	if e != want {
		p.t.Fatalf("%+v\n%+v\nerror %d, not %d", p.start, p.calls, e, want)
	}
	p.compare(out)
}

// relSeg tells a segment whose Seq is behind the expected one, and whose Ack is behind UNA, by these; text hangs on the place.
func (p *pair) relSeg(seq, ackBehind, n int) seg.Seg {
	s := seg.Seg{Flags: 16, Seq: p.m.expected() + uint32(seq), Ack: p.m.iss + 1 + uint32(p.m.una+ackBehind)}
	at := p.m.expectedPlace() + seq
	for i := range n {
		s.Data = append(s.Data, byte('a'+(at+i)%26))
	}
	return s
}

func (p *pair) in(seq, ackBehind, n, flags, window int) {
	p.t.Helper()
	s := p.relSeg(seq, ackBehind, n)
	s.Flags, s.Window = flags, uint16(window)
	p.do(call{kind: doIn, s: s})
}

func (p *pair) tick(n int) {
	p.t.Helper()
	for range n {
		p.do(call{kind: doTick})
	}
}

func (p *pair) write(n int) { p.t.Helper(); p.do(call{kind: doWrite, n: n}) }
func (p *pair) close()      { p.t.Helper(); p.do(call{kind: doClose}) }
func (p *pair) read()       { p.t.Helper(); p.do(call{kind: doRead}) }
func (p *pair) abort()      { p.t.Helper(); p.do(call{kind: doAbort}) }

// opened lets what Accept sent be acknowledged.
func (p *pair) opened(window int) { p.t.Helper(); p.in(0, 0, 0, 16, window) }

// beginnings lead to all states, with all that may wait in them.
var beginnings = []func(p *pair){
	func(p *pair) {},
	func(p *pair) { p.tick(3) },
	func(p *pair) { p.tick(4) },
	func(p *pair) { p.tick(4 + 8 + 16 + 32 + 64 + 64 + 63) },
	func(p *pair) { p.close() },
	func(p *pair) { p.abort() },
	func(p *pair) { p.opened(9) },
	func(p *pair) { p.opened(9); p.write(7) },
	func(p *pair) { p.opened(9); p.write(20) },
	func(p *pair) { p.opened(5); p.write(5); p.in(0, 2, 0, 16, 5) },
	func(p *pair) { p.opened(9); p.write(20); p.tick(4) },
	func(p *pair) { p.opened(9); p.write(20); p.tick(2); p.in(0, 3, 0, 16, 9); p.tick(1) },
	func(p *pair) { p.opened(9); p.write(6); p.in(0, 0, 0, 16, 9); p.in(0, 0, 0, 16, 9) },
	func(p *pair) { p.opened(9); p.write(6); p.tick(2); p.in(0, 6, 0, 16, 2); p.write(6) },
	func(p *pair) { p.opened(0); p.write(6) },
	func(p *pair) { p.opened(0); p.write(6); p.tick(4) },
	func(p *pair) { p.opened(0); p.write(1); p.close(); p.tick(4) },
	func(p *pair) { p.opened(9); p.write(9); p.in(0, 3, 0, 16, 1) },
	func(p *pair) { p.opened(9); p.in(0, 0, 3, 16, 9) },
	func(p *pair) { p.opened(9); p.in(0, 0, 3, 16, 9); p.tick(1) },
	func(p *pair) { p.opened(9); p.in(2, 0, 3, 16, 9) },
	func(p *pair) { p.opened(9); p.in(1, 0, 2, 17, 9) },
	func(p *pair) { p.opened(9); p.in(0, 0, 8, 16, 9) },
	func(p *pair) { p.opened(9); p.in(0, 0, 6, 16, 9); p.read(); p.in(0, 0, 5, 16, 9); p.write(2) },
	func(p *pair) { p.opened(9); p.in(0, 0, 2, 17, 9) },
	func(p *pair) { p.opened(3); p.write(5); p.in(0, 0, 2, 17, 3) },
	func(p *pair) { p.opened(3); p.write(5); p.close(); p.in(0, 0, 2, 17, 3) },
	func(p *pair) { p.opened(9); p.close() },
	func(p *pair) { p.opened(9); p.write(4); p.close(); p.in(0, 0, 2, 16, 9) },
	func(p *pair) { p.opened(9); p.write(4); p.close(); p.in(0, 4, 0, 16, 9) },
	func(p *pair) { p.opened(9); p.write(4); p.close(); p.in(2, 0, 2, 17, 9) },
	func(p *pair) { p.opened(9); p.write(4); p.close(); p.in(0, 5, 0, 16, 9) },
	func(p *pair) { p.opened(9); p.close(); p.in(0, 1, 3, 16, 9) },
	func(p *pair) { p.opened(9); p.close(); p.in(0, 1, 8, 16, 9) },
	func(p *pair) { p.opened(9); p.write(4); p.close(); p.in(0, 1, 0, 17, 9) },
	func(p *pair) { p.opened(9); p.close(); p.in(0, 0, 8, 17, 9) },
	func(p *pair) { p.opened(9); p.in(0, 0, 0, 17, 9); p.write(4); p.close() },
	func(p *pair) { p.opened(9); p.in(0, 0, 8, 17, 9); p.close(); p.tick(4) },
	func(p *pair) { p.opened(9); p.close(); p.in(0, 1, 0, 17, 9) },
	func(p *pair) { p.opened(9); p.close(); p.in(0, 1, 0, 17, 9); p.tick(5) },
	func(p *pair) { p.opened(9); p.close(); p.in(0, 0, 1, 17, 9); p.in(0, 1, 0, 16, 9); p.tick(7) },
}

// starts are connections whose numbers go round at once, or not at all.
var starts = []start{
	{1000, seg.Seg{Seq: 500, Flags: 2, Window: 3, MSS: 4}, 100, 8},
	{1<<32 - 3, seg.Seg{Seq: 1<<32 - 2, Flags: 2, Window: 9}, 3, 8},
}

// ends show what a call left behind that nothing told.
var ends = []func(p *pair){
	func(p *pair) { p.tick(70) },
	func(p *pair) {
		p.tick(1)
		p.in(0, 0, 0, 16, 9)
		p.read()
		p.write(3)
		p.in(0, 0, 0, 16, 9)
		p.close()
		p.tick(9)
	},
	func(p *pair) { p.in(0, 0, 2, 16, 9); p.in(-1, 2, 4, 17, 4); p.close(); p.in(0, 2, 0, 16, 9); p.tick(3) },
	func(p *pair) { p.tick(2); p.in(0, p.m.nxt-p.m.una, 0, 16, 9); p.write(5); p.tick(6) },
}

// checkSegs lets segments of these flags come behind each beginning, near all edges of both windows, and looks at what comes of it.
func checkSegs(t *testing.T, flags int) {
	for _, c := range starts {
		for _, begin := range beginnings {
			for seq := -9; seq <= 10; seq++ {
				for _, n := range []int{0, 1, 3, 9} {
					if n > 1 && (seq+n < -1 || seq > 9) {
						continue
					}
					for _, ackBehind := range []int{-1, 0, 1, 2, 4, 5, 7} {
						p := pairOf(t, c)
						begin(p)
						window := []int{9, 5, p.m.win, 0}[(seq+n+ackBehind+99)%4]
						p.in(seq, ackBehind, n, flags, window)
						ends[(seq+2*n+ackBehind+99)%len(ends)](p)
					}
				}
			}
		}
	}
}

func TestP222SegmentsByTheModel(t *testing.T) {
	for _, flags := range []int{16, 17} {
		checkSegs(t, flags)
	}
}

func TestP222OtherFlagsByTheModel(t *testing.T) {
	for _, c := range starts {
		for _, begin := range beginnings {
			for flags := range 64 {
				for _, seq := range []int{-1, 0, 1, 7, 8} {
					for n := range 2 {
						p := pairOf(t, c)
						begin(p)
						p.in(seq, n%2, n, flags, 9)
						ends[(seq+n+99)%len(ends)](p)
					}
				}
			}
		}
	}
}

func TestP223P224OtherCallsByTheModel(t *testing.T) {
	others := []func(p *pair){
		func(p *pair) { p.tick(1) }, func(p *pair) { p.tick(2) }, func(p *pair) { p.tick(4) }, func(p *pair) { p.tick(600) },
		func(p *pair) { p.write(0) }, func(p *pair) { p.write(1) }, func(p *pair) { p.write(30) }, func(p *pair) { p.write(-1) }, func(p *pair) { p.write(1048577) },
		func(p *pair) { p.close() }, func(p *pair) { p.read() }, func(p *pair) { p.abort() },
		func(p *pair) { p.in(0, p.m.nxt-p.m.una, 0, 16, 9) }, func(p *pair) { p.in(0, 0, 9, 16, 9) },
	}
	for _, c := range starts {
		for _, begin := range beginnings {
			for i, first := range others {
				for j, second := range others {
					p := pairOf(t, c)
					begin(p)
					first(p)
					second(p)
					ends[(i+j)%len(ends)](p)
				}
			}
		}
	}
}

// chance tells one of these.
func chance(rnd *rand.Rand, of ...int) int {
	return of[rnd.Intn(len(of))]
}

// step does anything to a pair, mostly what keeps the connection going.
func step(p *pair, rnd *rand.Rand) {
	unacked := p.m.nxt - p.m.una
	switch rnd.Intn(12) {
	case 0, 1:
		p.tick(1 + rnd.Intn(3))
	case 2:
		p.write(chance(rnd, 0, 1, rnd.Intn(20), rnd.Intn(5*p.start.mss+1), rnd.Intn(3000)))
	case 3:
		p.read()
	case 4:
		p.in(0, unacked, 0, 16, chance(rnd, 0, 1, p.m.win, rnd.Intn(3000), 65535))
	case 5:
		p.in(0, rnd.Intn(unacked+1), rnd.Intn(p.m.window()+1), 16, p.m.win)
	case 6:
		p.in(0, 0, 0, 16, p.m.win)
	case 7:
		p.in(rnd.Intn(p.start.room+1), rnd.Intn(unacked+1), rnd.Intn(p.start.room+1), chance(rnd, 16, 24), rnd.Intn(2000))
	case 8:
		p.in(-rnd.Intn(p.start.room+1), rnd.Intn(unacked+1), rnd.Intn(2*p.start.room+1), 16, rnd.Intn(2000))
	case 9:
		n := rnd.Intn(5) - 2
		p.in(n, rnd.Intn(unacked+3)-1, rnd.Intn(5), chance(rnd, 0, 2, 16, 16, 18, rnd.Intn(64)), p.m.win)
	case 10:
		if rnd.Intn(8) == 0 {
			p.in(rnd.Intn(3), rnd.Intn(unacked+1), rnd.Intn(3), 17, rnd.Intn(2000))
		}
	case 11:
		if rnd.Intn(12) == 0 {
			p.close()
		}
	}
}

func TestP221ToP224ByTheModel(t *testing.T) {
	for seed := range int64(2500) {
		rnd := rand.New(rand.NewSource(seed))
		c := start{rnd.Uint32(), seg.Seg{Seq: rnd.Uint32(), Flags: 2, Window: uint16(rnd.Intn(2000)), MSS: rnd.Intn(200)}, 1 + rnd.Intn(300), 1 + rnd.Intn(100)}
		if rnd.Intn(2) == 0 {
			c.iss, c.s.Seq = uint32(-rnd.Intn(1000)), uint32(-rnd.Intn(100))
		}
		p := pairOf(t, c)
		if rnd.Intn(5) > 0 {
			p.opened(rnd.Intn(1000))
		}
		for range 150 {
			step(p, rnd)
		}
		if rnd.Intn(2) == 0 {
			p.close()
		}
		p.tick(300)
		p.abort()
		p.read()
	}
}
