package tcb

import (
	"pantler/seg"
	"pantler/seqno"
)

// next tells the place of the peer's stream that is expected.
func (t *TCB) next() int {
	n := t.buffer.Next() + t.buffer.Ready()
	if t.done {
		n++
	}
	return n
}

// expected tells the number that is expected.
func (t *TCB) expected() uint32 {
	return seqno.Add(t.peer, t.next())
}

// window tells how many bytes more may come.
func (t *TCB) window() int {
	return t.room - t.buffer.Ready()
}

// fits tells whether the beginning or the end of s is within the window.
func (t *TCB) fits(s seg.Seg) bool {
	n, first, window := seg.Room(s), t.expected(), t.window()
	if n == 0 && window == 0 {
		return s.Seq == first
	}
	return seqno.Within(s.Seq, first, window) || n > 0 && seqno.Within(seqno.Add(s.Seq, n-1), first, window)
}

// turnAway answers a segment that doesn't fit.
func (t *TCB) turnAway(s seg.Seg) {
	if s.Flags&rst != 0 {
		return
	}
	if t.state == resting && s.Flags&fin != 0 {
		t.rest = restTicks
	}
	t.due = atOnce
}

// reset takes in an RST that fits: one that isn't at the expected number may be somebody else's.
func (t *TCB) reset(s seg.Seg) {
	if s.Seq == t.expected() {
		t.state = gone
	} else {
		t.due = atOnce
	}
}

// heed takes in that s acknowledges all ahead of a place, and which window it tells.
func (t *TCB) heed(s seg.Seg, place int) []Out {
	if place < t.una {
		return nil
	}
	var out []Out
	t.tries = 0
	if place > t.una {
		t.advance(place)
	} else if t.una < t.nxt && seg.Room(s) == 0 && int(s.Window) == t.win {
		t.dups++
		if t.dups == manyDups {
			out = t.again(out)
		}
	}
	t.win = int(s.Window)
	if t.una > t.end {
		t.ownDone()
	}
	return out
}

// advance lets all ahead of a place be acknowledged.
func (t *TCB) advance(place int) {
	t.una, t.dups = place, 0
	if t.timed != none && t.timed < place {
		t.clock.Sample(t.took)
		t.timed = none
	}
	t.timer = 0
	if t.una < t.nxt {
		t.arm()
	}
}

// ownDone goes on as the own FIN was acknowledged.
func (t *TCB) ownDone() {
	switch t.state {
	case ownSent:
		t.state = ownAcked
	case bothSent:
		t.state, t.rest = resting, restTicks
	case lastSent:
		t.state = gone
	}
}

// take takes in the data of s, and the peer's FIN, once all ahead of it is there.
func (t *TCB) take(s seg.Seg) {
	if t.state != open && t.state != ownSent && t.state != ownAcked {
		return
	}
	place := seqno.Offset(t.peer, s.Seq, t.next())
	if len(s.Data) > 0 {
		t.keep(place, s.Data)
	}
	if s.Flags&fin != 0 {
		t.finAt = place + len(s.Data)
	}
	if t.finAt == t.next() {
		t.peerIsDone()
	}
}

// keep puts data to the buffer. Who sent what is early, or late, or the second part since the last ack, is told at once.
func (t *TCB) keep(place int, b []byte) {
	kept := t.buffer.Put(place, b)
	if kept < len(b) || t.buffer.Held() > t.buffer.Ready() || t.due != never {
		t.due = atOnce
	} else {
		t.due = late
	}
}

// peerIsDone takes the peer's FIN.
func (t *TCB) peerIsDone() {
	t.done = true
	t.due = atOnce
	switch t.state {
	case open:
		t.state = peerDone
	case ownSent:
		t.state = bothSent
	case ownAcked:
		t.state, t.rest = resting, restTicks
	}
}
