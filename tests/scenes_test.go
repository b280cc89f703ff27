package tests

import (
	"slices"
	"testing"

	"loop.example/turnback/impl"
)

type (
	item    = impl.HstItem
	done    = impl.HstDone
	kept    = impl.HstKeep
	host    = impl.HstState
	message = impl.HstMsg
)

// scene is a host of a component of a model.
type scene struct {
	M    model
	Comp int
	H    host
}

// told is a host and what it sends.
type told struct {
	H    host
	Sent []message
}

// numbered is an event as an item.
func numbered(e event, id int) item {
	return item{Ev: e, Id: id}
}

func (s scene) ok() bool { return impl.HstOk(s.M, s.Comp, s.H) }

func (s scene) put(msg message, lazy bool) told {
	h, sent := impl.HstPut(s.M, s.Comp, s.H, msg, lazy)
	return told{h, sent}
}

func (s scene) do() told {
	h, sent := impl.HstDo(s.M, s.Comp, s.H)
	return told{h, sent}
}

// at is the same component with another host.
func (s scene) at(h host) scene {
	return scene{s.M, s.Comp, h}
}

// doAll lets the host process whatever waits.
func (s scene) doAll() scene {
	for len(s.H.Wait) > 0 && s.H.Ids <= impl.IdTop-impl.SndMost {
		s = s.at(s.do().H)
	}
	return s
}

// doneItems are the processed items.
func doneItems(h host) []item {
	list := []item{}
	for _, d := range h.Done {
		list = append(list, d.It)
	}
	return list
}

// known are all items that the host has anything to do with.
func known(h host) []item {
	list := slices.Concat(doneItems(h), h.Wait, h.Anti)
	for _, d := range h.Done {
		list = append(list, d.Sent...)
	}
	for _, k := range h.Keep {
		list = append(list, k.Sent)
	}
	return list
}

func itemInOrder(a, b item) int {
	switch {
	case impl.ItmLess(a, b):
		return -1
	case impl.ItmLess(b, a):
		return 1
	}
	return 0
}

// inOrder is a list with one more item, in order.
func inOrder(list []item, it item) []item {
	list = append(slices.Clone(list), it)
	slices.SortFunc(list, itemInOrder)
	return list
}

func withoutItem(list []item, it item) []item {
	return slices.DeleteFunc(slices.Clone(list), func(other item) bool { return other == it })
}

// itemByDefinition says whether an item is valid and addressed to the component.
func itemByDefinition(m model, to int, it item) bool {
	return impl.EvtOk(it.Ev, len(m.Rules)) && it.Ev.T <= m.Until && it.Ev.To == to &&
		it.Id >= 0 && it.Id < impl.IdTop && (it.Ev.From >= 0 || it.Id == 0)
}

// okByDefinition is HstOk as the document describes it.
func okByDefinition(m model, c int, h host) bool {
	if !impl.MdlOk(m) || c < 0 || c >= len(m.Rules) || !impl.CmpOk(h.Now) || h.Ids < 0 || h.Ids > 9999 {
		return false
	}
	for _, list := range [][]item{append(doneItems(h), h.Wait...), h.Anti} {
		for i, it := range list {
			if !itemByDefinition(m, c, it) || i > 0 && !impl.ItmLess(list[i-1], it) {
				return false
			}
		}
	}
	for _, k := range h.Keep {
		if !itemByDefinition(m, k.Sent.Ev.To, k.Sent) || k.Sent.Ev.From != c || k.Sent.Id >= h.Ids {
			return false
		}
		if !impl.EvtOk(k.By, len(m.Rules)) || k.By.To != c || k.Sent.Ev.T <= k.By.T {
			return false
		}
	}
	now := h.Now
	for _, d := range slices.Backward(h.Done) {
		after, sent := impl.CmpDo(m, d.Before, d.It.Ev)
		if !impl.CmpOk(d.Before) || after != now || after.S != d.S || len(sent) != len(d.Sent) {
			return false
		}
		for i, it := range d.Sent {
			if it.Ev != sent[i] || it.Id < 0 || it.Id >= h.Ids {
				return false
			}
		}
		now = d.Before
	}
	return true
}

// putByDefinition is HstPut of a valid host as the document describes it.
func putByDefinition(s scene, msg message, lazy bool) told {
	h, it := plain(s.H), msg.It
	wasDone := slices.Contains(doneItems(h), it)
	wasWaiting := slices.Contains(h.Wait, it)
	wasOff := slices.Contains(h.Anti, it)
	switch {
	case !itemByDefinition(s.M, s.Comp, it), msg.Off && wasOff, !msg.Off && (wasDone || wasWaiting):
		return told{}
	case !msg.Off && wasOff:
		h.Anti = withoutItem(h.Anti, it)
		return told{H: h}
	}
	var sent []message
	for (!msg.Off || wasDone) && len(h.Done) > 0 && !impl.ItmLess(h.Done[len(h.Done)-1].It, it) {
		last := h.Done[len(h.Done)-1]
		h.Done = h.Done[:len(h.Done)-1]
		h.Now = last.Before
		h.Wait = inOrder(h.Wait, last.It)
		for _, x := range last.Sent {
			if lazy {
				h.Keep = append(h.Keep, kept{By: last.It.Ev, Sent: x})
			} else {
				sent = append(sent, message{Off: true, It: x})
			}
		}
	}
	switch {
	case !msg.Off:
		h.Wait = inOrder(h.Wait, it)
	case slices.Contains(h.Wait, it):
		h.Wait = withoutItem(h.Wait, it)
	default:
		h.Anti = inOrder(h.Anti, it)
	}
	return told{h, sent}
}

// callOff sends anti-messages for the kept items of these sending events.
func callOff(h *host, sent []message, of func(event) bool) []message {
	rest := []kept{}
	for _, k := range h.Keep {
		if of(k.By) {
			sent = append(sent, message{Off: true, It: k.Sent})
		} else {
			rest = append(rest, k)
		}
	}
	h.Keep = rest
	return sent
}

// doByDefinition is HstDo of a valid host as the document describes it.
func doByDefinition(s scene) told {
	h := plain(s.H)
	if len(h.Wait) == 0 {
		return told{Sent: callOff(&h, nil, func(event) bool { return true }), H: h}
	}
	if h.Ids > 9997 {
		return told{H: h}
	}
	first := h.Wait[0]
	sent := callOff(&h, nil, func(by event) bool { return impl.EvtLess(by, first.Ev) })
	after, events := impl.CmpDo(s.M, h.Now, first.Ev)
	d := done{It: first, Before: h.Now, S: after.S}
	for _, e := range events {
		at := 0
		for at < len(h.Keep) && h.Keep[at].Sent.Ev != e {
			at++
		}
		if at < len(h.Keep) {
			d.Sent = append(d.Sent, h.Keep[at].Sent)
			h.Keep = slices.Delete(h.Keep, at, at+1)
			continue
		}
		d.Sent = append(d.Sent, numbered(e, h.Ids))
		sent = append(sent, message{It: numbered(e, h.Ids)})
		h.Ids++
	}
	h.Now, h.Done, h.Wait = after, append(h.Done, d), h.Wait[1:]
	sent = callOff(&h, sent, func(by event) bool { return by == first.Ev })
	return told{h, sent}
}

// item draws one for a component: what is known there, one that differs from it a little, or a new one.
func (d *draw) item(s scene, list []item) item {
	e := event{T: d.below(s.M.Until + 1), To: s.Comp, From: d.between(-1, len(s.M.Rules)-1), Seq: d.below(12), Kind: d.below(3), Data: d.below(97)}
	it := numbered(e, d.below(20))
	if len(list) > 0 && d.below(4) > 0 {
		it = list[d.below(len(list))]
	}
	switch d.below(8) {
	case 0:
		it.Id = d.below(20)
	case 1:
		it.Ev.Data = d.below(97)
	case 2:
		it.Ev.T = d.below(s.M.Until + 1)
	}
	it.Ev.To = s.Comp
	if it.Ev.From == -1 {
		it.Id = 0
	}
	return it
}

// later is the host after something has been done to it.
func (d *draw) later(s scene, list []item) host {
	if d.below(8) == 0 {
		h, _ := impl.HstFree(s.M, s.Comp, s.H, d.below(s.M.Until+2))
		return h
	}
	if d.below(5) > 2 {
		return s.do().H
	}
	msg := message{Off: d.below(3) == 0, It: d.item(s, list)}
	if msg.Off && d.below(3) > 0 && len(s.H.Done)+len(s.H.Wait) > 0 {
		there := append(doneItems(s.H), s.H.Wait...)
		msg.It = there[d.below(len(there))]
	}
	h := putByDefinition(s, msg, d.below(3) > 0).H
	if len(h.Done)+len(h.Wait)+len(h.Anti)+len(h.Keep) == 0 {
		return s.H
	}
	return h
}

// manyScenes are hosts of many models after messages and steps of a fixed sequence; all are valid.
func manyScenes() []scene {
	d := &draw{at: 11}
	var list []scene
	for _, m := range manyModels() {
		c := d.below(len(m.Rules))
		s := scene{m, c, impl.HstNew(m, c)}
		if d.below(10) == 0 {
			s.H.Ids = d.between(impl.IdTop-8, impl.IdTop)
		}
		var pool []item
		for _, r := range impl.SeqAll(m).Log {
			pool = append(pool, numbered(r.Ev, d.below(10)))
		}
		for range 25 {
			list = append(list, s)
			s = s.at(d.later(s, append(pool, known(s.H)...)))
		}
	}
	return list
}

func TestManyScenesAreValidAndVaried(t *testing.T) {
	counts := [6]int{}
	list := manyScenes()
	for _, s := range list {
		if !okByDefinition(s.M, s.Comp, s.H) {
			t.Fatal(s)
		}
		for i, has := range []bool{len(s.H.Done) > 2, len(s.H.Wait) > 2, len(s.H.Anti) > 1, len(s.H.Keep) > 1, s.H.Ids > 9997, s.H.Ids > 4} {
			if has {
				counts[i]++
			}
		}
	}
	if slices.Min(counts[:]) < len(list)/50 {
		t.Fatalf("%d scenes: %v", len(list), counts)
	}
}
