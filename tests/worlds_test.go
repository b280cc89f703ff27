package tests

import (
	"fmt"
	"slices"
	"testing"

	"loop.example/turnback/impl"
)

type (
	world  = impl.WldWorld
	action = impl.ActAct
	parcel = impl.NetMsg
)

func doing(at int) action   { return action{Kind: impl.ActDo, At: at} }
func hearing(at int) action { return action{Kind: impl.ActHear, At: at} }
func freeing(at int) action { return action{Kind: impl.ActFree, At: at} }

var (
	beginning = action{Kind: impl.ActBegin}
	visiting  = action{Kind: impl.ActVisit}
)

func sceneOf(w world, c int) scene {
	return scene{w.Model, c, w.Hosts[c]}
}

// countOf is the count of messages of a round.
func countOf(g *count, round int) *int {
	if round%2 == 0 {
		return &g.Even
	}
	return &g.Odd
}

// leastByDefinition is HstLeast as the document describes it.
func leastByDefinition(m model, h host) int {
	least := m.Until + 1
	for _, it := range append(slices.Clone(h.Wait), h.Anti...) {
		least = min(least, it.Ev.T)
	}
	for _, k := range h.Keep {
		least = min(least, k.Sent.Ev.T)
	}
	return least
}

// worldByDefinition is WldOk as the document describes it.
func worldByDefinition(w world) bool {
	m, n := w.Model, len(w.Model.Rules)
	if !impl.MdlOk(m) || len(w.Hosts) != n || len(w.Marks) != n || len(w.Logs) != n {
		return false
	}
	if !tokenByDefinition(m, w.Tok) || !inRange(w.Bound, 0, m.Until+1) || len(w.Net) > 1500 {
		return false
	}
	for _, x := range w.Net {
		it := x.Msg.It
		if !itemByDefinition(m, it.Ev.To, it) || it.Ev.From == -1 || !inRange(x.Round, 0, w.Tok.Round) {
			return false
		}
	}
	for c, g := range w.Marks {
		ahead := w.Tok.Round - g.Round
		if !markByDefinition(m, g) || ahead != 0 && (ahead != 1 || !w.Tok.On) {
			return false
		}
		if !okByDefinition(m, c, w.Hosts[c]) || !logByDefinition(w, c) {
			return false
		}
	}
	return true
}

// logByDefinition says whether the committed records of a host are valid.
func logByDefinition(w world, c int) bool {
	for i, r := range w.Logs[c] {
		if !impl.EvtOk(r.Ev, len(w.Model.Rules)) || r.Ev.To != c || !inRange(r.S, 0, 96) || r.Ev.T >= w.Bound {
			return false
		}
		if i > 0 && !impl.EvtLess(w.Logs[c][i-1].Ev, r.Ev) {
			return false
		}
	}
	return true
}

// actByDefinition is an action as the document describes it, whether the simulation is valid or not.
func actByDefinition(w world, a action) world {
	return runByDefinition(w, []action{a})
}

// runByDefinition are actions one after the other.
func runByDefinition(w world, list []action) world {
	w = plain(w)
	for _, a := range list {
		act(&w, a)
	}
	return w
}

// act changes a simulation, which has memory of its own, by an action.
func act(w *world, a action) {
	exists := a.At >= 0 && a.At < len(w.Hosts)
	room := len(w.Net) <= 1500-150
	switch {
	case a.Kind == 1 && exists && room:
		got := doByDefinition(sceneOf(*w, a.At))
		w.Hosts[a.At] = got.H
		sendByDefinition(w, a.At, got.Sent)
	case a.Kind == 2 && a.At >= 0 && a.At < len(w.Net) && room && isNew(*w, a.At):
		x := w.Net[a.At]
		to := x.Msg.It.Ev.To
		w.Net = slices.Delete(w.Net, a.At, a.At+1)
		*countOf(&w.Marks[to], x.Round)--
		got := putByDefinition(sceneOf(*w, to), x.Msg, w.Lazy)
		w.Hosts[to] = got.H
		sendByDefinition(w, to, got.Sent)
	case a.Kind == 3 && !w.Tok.On && w.Tok.Round < 999:
		w.Tok = active(w.Tok.Round+1, 0, 0, w.Model.Until+1)
	case a.Kind == 4 && w.Tok.On:
		at := w.Tok.At
		got := moveByDefinition(meeting{w.Model, w.Tok, w.Marks[at], leastByDefinition(w.Model, w.Hosts[at])})
		w.Tok, w.Marks[at] = got.Tok, got.Mark
		if got.Bound > w.Bound {
			w.Bound = got.Bound
		}
	case a.Kind == 5 && exists:
		h := &w.Hosts[a.At]
		for len(h.Done) > 0 && h.Done[0].It.Ev.T < w.Bound {
			w.Logs[a.At] = append(w.Logs[a.At], record{Ev: h.Done[0].It.Ev, S: h.Done[0].S})
			h.Done = h.Done[1:]
		}
	}
}

// isNew says whether message number at is new to its host.
func isNew(w world, at int) bool {
	msg := w.Net[at].Msg
	h := w.Hosts[msg.It.Ev.To]
	if msg.Off {
		return !slices.Contains(h.Anti, msg.It)
	}
	return !slices.Contains(h.Wait, msg.It) && !slices.Contains(doneItems(h), msg.It)
}

func sendByDefinition(w *world, c int, sent []message) {
	g := &w.Marks[c]
	for _, msg := range sent {
		w.Net = append(w.Net, parcel{Msg: msg, Round: g.Round})
		*countOf(g, g.Round)++
		g.Least = min(g.Least, msg.It.Ev.T)
	}
}

// calmByDefinition are the actions of a calm round.
func calmByDefinition(w world) []action {
	var list []action
	for range w.Net {
		list = append(list, hearing(0))
	}
	for c := range w.Hosts {
		list = append(list, doing(c))
	}
	list = append(list, beginning)
	for range w.Hosts {
		list = append(list, visiting)
	}
	for c := range w.Hosts {
		list = append(list, freeing(c))
	}
	return list
}

// manner is an order in which a network delivers its messages.
type manner int

const (
	anyOrder manner = iota
	asSent
	reversed
	antiFirst
	lateFirst
	manners
)

// pick is the number of the next message that is delivered in this manner.
func (d *draw) pick(net []parcel, how manner) int {
	switch how {
	case asSent:
		return 0
	case reversed:
		return len(net) - 1
	case antiFirst:
		for i, x := range slices.Backward(net) {
			if x.Msg.Off {
				return i
			}
		}
	case lateFirst:
		late := 0
		for i, x := range net {
			if x.Msg.It.Ev.T > net[late].Msg.It.Ev.T {
				late = i
			}
		}
		return late
	}
	return d.below(len(net))
}

// busy is a host, most often one that has something to do.
func (d *draw) busy(w world) int {
	c := d.below(len(w.Hosts))
	for range 3 {
		if len(w.Hosts[c].Wait)+len(w.Hosts[c].Keep) > 0 {
			break
		}
		c = d.below(len(w.Hosts))
	}
	return c
}

// action is the next one in a walk; now and then its condition is not met.
func (d *draw) action(w world, how manner) action {
	switch n := d.below(40); {
	case n == 0:
		return action{Kind: d.between(-1, 7), At: d.between(-1, 5)}
	case n < 28:
		if len(w.Net) > 0 && (n < 14 || how == asSent) {
			return hearing(d.pick(w.Net, how))
		}
		return doing(d.busy(w))
	case n < 30:
		return beginning
	case n < 38 && w.Tok.On:
		return visiting
	case n < 38 && d.below(4) > 0:
		return beginning
	}
	return freeing(d.below(len(w.Hosts)))
}

// walk takes steps from WldNew on, and shows every action with the simulations before and after it.
func (d *draw) walk(m model, lazy bool, how manner, steps int, show func(w world, a action, next world)) {
	w := impl.WldNew(m, lazy)
	for range steps {
		a := d.action(w, how)
		next := impl.WldStep(w, a)
		show(w, a, next)
		w = next
	}
}

// manyWalks walks with all models, both strategies, and every order of delivery.
func manyWalks(seed uint64, steps int, show func(w world, a action, next world)) {
	d := &draw{at: seed}
	for i, m := range manyModels() {
		// A simulation that has little to do comes to its end soon.
		many := min(steps, 15+6*len(impl.SeqAll(m).Log))
		for _, lazy := range []bool{false, true} {
			d.walk(m, lazy, manner(i)%manners, many, show)
		}
	}
}

// someWorld is valid; it has something of everything, and no part of it follows from another.
func someWorld() world {
	return world{
		Model: someModel(),
		Lazy:  true,
		Hosts: []host{someHost(), secondHost(), thirdHost()},
		Marks: []count{counted(7, 3, -2, 9), counted(6, -1, 4, 21), counted(7, 0, 0, 0)},
		Net: []parcel{
			// Still to come to host 0.
			{Msg: message{It: numbered(event{T: 5, To: 0, From: 1, Seq: 1, Data: 7}, 3)}, Round: 6},
			// Called off before it has come.
			{Msg: message{Off: true, It: numbered(event{T: 9, To: 2, From: 0, Seq: 4}, 5)}, Round: 7},
			{Msg: message{It: numbered(event{T: 9, To: 2, From: 0, Seq: 4}, 5)}, Round: 6},
			// What host 0 has processed is called off.
			{Msg: message{Off: true, It: numbered(event{T: 3, To: 0, From: 2, Seq: 9, Data: 4}, 5)}, Round: 0},
			// Not new to host 0: it waits, it was processed, it was called off before.
			{Msg: message{It: numbered(event{T: 6, To: 0, From: 1}, 4)}, Round: 7},
			{Msg: message{It: numbered(event{T: 6, To: 0, From: 0, Seq: 1, Data: 1}, 2)}, Round: 7},
			{Msg: message{Off: true, It: numbered(event{T: 2, To: 0, From: 1, Kind: 2}, 2)}, Round: 5},
			// A straggler for host 1.
			{Msg: message{It: numbered(event{T: 0, To: 1, From: 2, Seq: 3, Kind: 1, Data: 1}, 9998)}, Round: 7},
		},
		Tok:   active(7, 1, 3, 9),
		Bound: 4,
		Logs: [][]record{
			{{Ev: event{T: 0, To: 0, From: -1, Data: 4}, S: 27}, {Ev: event{T: 3, To: 0, From: 2, Seq: 8}, S: 96}},
			nil,
			{{Ev: event{T: 1, To: 2, From: 1, Seq: 11, Kind: 2, Data: 96}}},
		},
	}
}

// secondHost is a valid host of component 1 of someModel.
func secondHost() host {
	return host{
		Now: comp{S: 2, Seq: 2, Count: 1},
		Ids: 2,
		Done: []done{{
			It: numbered(event{T: 1, To: 1, From: -1, Kind: 1, Data: 2}, 0),
			S:  2,
			Sent: []item{
				numbered(event{T: 2, To: 0, From: 1, Seq: 0, Data: 2}, 0),
				numbered(event{T: 2, To: 0, From: 1, Seq: 1, Data: 2}, 1),
			},
		}},
		Wait: []item{numbered(event{T: 8, To: 1, From: 0, Seq: 5, Kind: 1, Data: 23}, 7)},
	}
}

// thirdHost is a valid host of component 2 of someModel.
func thirdHost() host {
	return host{
		Now: comp{S: 5, Seq: 12, Count: 7},
		Done: []done{
			{It: numbered(event{T: 9, To: 2, From: 1, Kind: 2}, 8), Before: comp{S: 5, Seq: 12, Count: 5}, S: 5},
			{It: numbered(event{T: 20, To: 2, From: -1, Seq: 1}, 0), Before: comp{S: 5, Seq: 12, Count: 6}, S: 5},
		},
	}
}

// brief is what a failed test tells of a simulation.
func brief(w world) string {
	return fmt.Sprintf("hosts %v\nmarks %v\nnetwork %v\ntoken %v, bound %d, committed %v\nof %v, lazy %v", w.Hosts, w.Marks, w.Net, w.Tok, w.Bound, w.Logs, w.Model, w.Lazy)
}

func TestSomeWorldIsValidByDefinition(t *testing.T) {
	if w := someWorld(); !worldByDefinition(w) || !impl.WldOk(w) {
		t.Fatal(brief(w))
	}
}

// events counts what happens in walks.
type events struct {
	idle, back, kept, called, overtaken, rose, waited, committed int
}

func (n *events) add(w world, a action, next world) {
	if same(w, next) {
		n.idle++
	}
	if next.Bound > w.Bound {
		n.rose++
	}
	if a.Kind == impl.ActVisit && w.Tok.On && next.Tok.On && next.Tok.At == 0 {
		n.waited++
	}
	for c, h := range next.Hosts {
		if a.Kind == impl.ActHear && len(h.Done) < len(w.Hosts[c].Done) {
			n.back++
		}
		if len(h.Keep) > len(w.Hosts[c].Keep) {
			n.kept++
		}
		if len(h.Anti) > len(w.Hosts[c].Anti) {
			n.overtaken++
		}
		if len(next.Logs[c]) > len(w.Logs[c]) {
			n.committed++
		}
	}
	if at := len(next.Net) - 1; at >= len(w.Net) && next.Net[at].Msg.Off {
		n.called++
	}
}

func TestManyWalksAreVaried(t *testing.T) {
	var n events
	manyWalks(3, 150, func(w world, a action, next world) { n.add(w, a, next) })
	for _, rare := range []int{n.back, n.kept, n.called, n.overtaken, n.rose, n.waited, n.committed} {
		if rare < 200 || n.idle > 15000 {
			t.Fatalf("%+v", n)
		}
	}
}

func TestAllMannersDiffer(t *testing.T) {
	d := &draw{at: 1}
	net := someWorld().Net
	for how, want := range map[manner]int{asSent: 0, reversed: 7, antiFirst: 6, lateFirst: 1} {
		if got := d.pick(net, how); got != want {
			t.Errorf("manner %d: %d, not %d", how, got, want)
		}
	}
}
