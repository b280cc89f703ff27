package tests

import (
	"slices"
	"testing"

	"loop.example/turnback/impl"
)

// stamped is a message in the network, with the round in which it was sent.
type stamped struct {
	Msg   message
	Round int
}

// ring is hosts that exchange messages, which overtake each other, while a token goes round.
type ring struct {
	m     model
	lazy  bool
	hosts []host
	marks []count
	net   []stamped
	tok   token
	bound int
	// rose is how often the bound rose, waited how often a token had to go round once more.
	rose   int
	waited int
}

func newRing(m model, lazy bool) *ring {
	r := &ring{m: m, lazy: lazy, tok: token{Least: m.Until + 1}}
	for c := range m.Rules {
		r.hosts = append(r.hosts, impl.HstNew(m, c))
		r.marks = append(r.marks, count{Least: m.Until + 1})
	}
	return r
}

// tally adds to the count of a round.
func (r *ring) tally(c, round, by int) {
	if round%2 == 0 {
		r.marks[c].Even += by
	} else {
		r.marks[c].Odd += by
	}
}

func (r *ring) send(c int, sent []message) {
	for _, msg := range sent {
		r.net = append(r.net, stamped{msg, r.marks[c].Round})
		r.tally(c, r.marks[c].Round, 1)
		r.marks[c].Least = min(r.marks[c].Least, msg.It.Ev.T)
	}
}

func (r *ring) do(c int) {
	h, sent := impl.HstDo(r.m, c, r.hosts[c])
	r.hosts[c] = h
	r.send(c, sent)
}

func (r *ring) hear(at int) {
	x := r.net[at]
	r.net = slices.Delete(r.net, at, at+1)
	c := x.Msg.It.Ev.To
	r.tally(c, x.Round, -1)
	h, sent := impl.HstPut(r.m, c, r.hosts[c], x.Msg, r.lazy)
	r.hosts[c] = h
	r.send(c, sent)
}

func (r *ring) begin() {
	r.tok = token{On: true, Round: r.tok.Round + 1, Least: r.m.Until + 1}
}

// visit fails if the new bound is before the last one, or after what is left.
func (r *ring) visit(t *testing.T) {
	t.Helper()
	at := r.tok.At
	tok, g, bound := impl.TokVisit(r.m, r.tok, r.marks[at], impl.HstLeast(r.m, at, r.hosts[at]))
	if !impl.TokOk(r.m, tok) || !impl.MrkOk(r.m, g) || tok.On == (bound != -1) {
		t.Fatalf("host %d: %v %v %d", at, tok, g, bound)
	}
	r.tok, r.marks[at] = tok, g
	if bound == -1 {
		if tok.At == 0 {
			r.waited++
		}
		return
	}
	if left := r.left(); bound < r.bound || bound > left {
		t.Fatalf("round %d: the bound %d follows %d, but %d is left: %v", tok.Round, bound, r.bound, left, r.m)
	}
	for _, x := range r.net {
		if x.Round != tok.Round {
			t.Fatalf("round %d has ended before %v has come", tok.Round, x)
		}
	}
	if bound > r.bound {
		r.rose++
	}
	r.bound = bound
}

// left is the least timestamp of whatever may still be processed or cancelled.
func (r *ring) left() int {
	least := r.m.Until + 1
	for c, h := range r.hosts {
		least = min(least, impl.HstLeast(r.m, c, h))
	}
	for _, x := range r.net {
		least = min(least, x.Msg.It.Ev.T)
	}
	return least
}

// any takes one step that is drawn.
func (r *ring) any(t *testing.T, d *draw) {
	t.Helper()
	switch d.below(4) {
	case 0:
		r.do(d.below(len(r.hosts)))
	case 1:
		if len(r.net) > 0 {
			r.hear(d.below(len(r.net)))
		}
	default:
		if r.tok.On {
			r.visit(t)
		} else {
			r.begin()
		}
	}
}

// The bound is what the token is for: nothing before it is left, wherever messages are while the token goes round.
func TestBoundIsNotAfterWhatIsLeft(t *testing.T) {
	d := &draw{at: 43}
	var rose, waited int
	for _, m := range manyModels() {
		for _, lazy := range []bool{false, true} {
			r := newRing(m, lazy)
			for range 400 {
				r.any(t, d)
			}
			for i := 0; r.bound <= m.Until; i++ {
				r.any(t, d)
				if i == 20000 {
					t.Fatalf("the bound stays at %d: %v", r.bound, m)
				}
			}
			rose, waited = rose+r.rose, waited+r.waited
		}
	}
	if rose < 1000 || waited < 1000 {
		t.Fatalf("the bound rose %d times, and tokens had to go round once more %d times", rose, waited)
	}
}
