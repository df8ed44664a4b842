package tcb

import "pantler/seqno"

// number tells the number of a place of the own stream.
func (t *TCB) number(place int) uint32 {
	return seqno.Add(t.own, place)
}

// finSent tells whether the own FIN was sent: nothing else has a place behind the end.
func (t *TCB) finSent() bool {
	return t.nxt > t.end
}

// plain tells the plain ack of this moment. All else that a connection sends is one with something more.
func (t *TCB) plain() Out {
	return Out{Flags: ack, Seq: t.number(t.nxt), Ack: t.expected(), Window: t.window()}
}

// send puts o behind out. It has an ack in it, so that none is due any more.
func (t *TCB) send(out []Out, o Out) []Out {
	t.due = never
	return append(out, o)
}

// greet sends what answers the peer's SYN.
func (t *TCB) greet(out []Out) []Out {
	o := t.plain()
	o.Flags |= syn
	o.Seq = t.number(-1)
	o.MSS = t.ownMSS
	return t.send(out, o)
}

// withBytes tells the plain ack o with n bytes from a place on.
func (t *TCB) withBytes(o Out, from, n int) Out {
	o.Seq, o.From, o.Len = t.number(from), from, n
	if from+n == t.end {
		o.Flags |= psh
	}
	return o
}

// sendFIN sends the own FIN.
func (t *TCB) sendFIN(out []Out) []Out {
	o := t.plain()
	o.Flags |= fin
	o.Seq = t.number(t.end)
	return t.send(out, o)
}

// pay sends an ack, if one is due at once. All calls end here.
func (t *TCB) pay(out []Out) []Out {
	if t.due != atOnce {
		return out
	}
	return t.send(out, t.plain())
}

// arm lets the timer begin anew.
func (t *TCB) arm() {
	t.timer = t.clock.Wait()
}

// wake lets the timer begin, if it rests.
func (t *TCB) wake() {
	if t.timer == 0 {
		t.arm()
	}
}

// push sends what the peer's window lets, and behind the last byte the FIN.
func (t *TCB) push(out []Out) []Out {
	if t.state != open && t.state != peerDone {
		return out
	}
	o, limit := t.plain(), min(t.end, t.una+t.win)
	for t.nxt < limit {
		n := min(t.mss, limit-t.nxt)
		out = t.send(out, t.withBytes(o, t.nxt, n))
		if t.timed == none {
			t.timed, t.took = t.nxt, 0
		}
		t.nxt += n
		t.wake()
	}
	if t.closed && t.nxt == t.end {
		out = t.sendFIN(out)
		t.nxt++
		t.wake()
		if t.state == open {
			t.state = ownSent
		} else {
			t.state = lastSent
		}
	}
	// Nothing is on its way that would be answered, so the window is asked for when the timer ends.
	if t.nxt < t.end && t.una == t.nxt {
		t.wake()
	}
	return out
}

// again sends what may have been lost, or a byte that asks for the window.
func (t *TCB) again(out []Out) []Out {
	// An answer wouldn't tell to which of both it is one.
	t.timed = none
	sent := min(t.nxt, t.end)
	switch {
	case t.state == begun:
		out = t.greet(out)
	case t.una < sent:
		out = t.send(out, t.withBytes(t.plain(), t.una, min(t.mss, sent-t.una)))
	case t.finSent() && t.una == t.end:
		out = t.sendFIN(out)
	case t.nxt < t.end:
		out = t.send(out, t.withBytes(t.plain(), t.nxt, 1))
		t.nxt++
	}
	return out
}
