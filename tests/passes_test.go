package tests

import (
	"fmt"
	"slices"
	"testing"

	"loop.example/turnback/impl"
)

// pass is a simulator of a model, of which the next window is to be processed.
type pass struct {
	M model
	S simulator
}

// passed is a simulator after WinStep, and whether there was a window.
type passed struct {
	S   simulator
	Did bool
}

func (p pass) ok() bool              { return impl.SeqOk(p.M, p.S) }
func (p pass) events() []event       { return impl.WinEvents(p.M, p.S) }
func (p pass) with(s simulator) pass { return pass{p.M, s} }

func (p pass) step() passed {
	s, did := impl.WinStep(p.M, p.S)
	return passed{s, did}
}

// end is the first time behind the window.
func (p pass) end() int {
	return p.S.Wait[0].T + widthByDefinition(p.M)
}

// sentBy are the events that the receiver of an event sends if it processes it now.
func (p pass) sentBy(e event) []event {
	_, sent := impl.CmpDo(p.M, p.S.Comps[e.To], e)
	return sent
}

// String is what a failed test tells of a simulator.
func (p pass) String() string {
	return fmt.Sprintf("components %v\npending %v\nlog %v\nof %v", p.S.Comps, p.S.Wait, p.S.Log, p.M)
}

// widthByDefinition is WinLook as the document describes it.
func widthByDefinition(m model) int {
	if !impl.MdlOk(m) {
		return -1
	}
	least := m.Until + 1
	for _, rules := range m.Rules {
		for _, r := range rules {
			for _, x := range r.Sends {
				if x.Delay < least {
					least = x.Delay
				}
			}
		}
	}
	return least
}

// eventsByDefinition is WinEvents as the document describes it.
func (p pass) eventsByDefinition() []event {
	if !p.ok() {
		return nil
	}
	var list []event
	for _, e := range p.S.Wait {
		if e.T < p.end() {
			list = append(list, e)
		}
	}
	return list
}

// stepByDefinition is WinStep as the document describes it.
func (p pass) stepByDefinition() passed {
	if !p.ok() {
		return passed{}
	}
	s := plain(p.S)
	window := p.eventsByDefinition()
	s.Wait = slices.DeleteFunc(s.Wait, func(e event) bool { return slices.Contains(window, e) })
	for c := range s.Comps {
		for _, e := range window {
			if e.To == c {
				now, sent := impl.CmpDo(p.M, s.Comps[c], e)
				s.Comps[c] = now
				s.Log = append(s.Log, record{Ev: e, S: now.S})
				s.Wait = append(s.Wait, sent...)
			}
		}
	}
	slices.SortFunc(s.Wait, inEventOrder)
	s.Log = inRecordOrder(s.Log)
	return passed{s, len(window) > 0}
}

// allPasses are all simulators from SeqNew on, window by window, until nothing is pending.
func allPasses(t *testing.T, m model) []pass {
	t.Helper()
	list := []pass{{m, impl.SeqNew(m)}}
	for {
		last := list[len(list)-1]
		next := last.step()
		if !next.Did {
			return list
		}
		if list = append(list, last.with(next.S)); len(list) > 101 {
			t.Fatalf("more than 100 windows of %v", m)
		}
	}
}

// slowed is a model in which no send has a delay less than this.
func slowed(m model, least int) model {
	m = plain(m)
	for _, rules := range m.Rules {
		for _, r := range rules {
			for i := range r.Sends {
				r.Sends[i].Delay = max(r.Sends[i].Delay, least)
			}
		}
	}
	return m
}

// windowModels are the models of the tests of chapter 10. In most drawn models some delay is 1, so that their windows are short; slowed they are not.
func windowModels() []model {
	list := append(cautionModels(), plainModels()...)
	for i, m := range manyModels() {
		list = append(list, slowed(m, 2+i%8))
	}
	return list
}

// pass makes a valid simulator that most often cannot have come about: nothing in it follows from anything else. Many pending events are around the end of the window.
func (d *draw) pass(m model) pass {
	p := pass{M: m}
	for range m.Rules {
		p.S.Comps = append(p.S.Comps, comp{S: d.below(97), Seq: d.between(0, 15) % 13, Count: d.below(99)})
	}
	first := d.below(m.Until + 1)
	for _, e := range d.around(m, first, first+widthByDefinition(m)) {
		if e.T < first {
			p.S.Log = append(p.S.Log, record{Ev: e, S: d.below(97)})
		} else {
			p.S.Wait = append(p.S.Wait, e)
		}
	}
	return p
}

// around are some events in order, many of them at the first timestamp of a window, or around its end.
func (d *draw) around(m model, first, end int) []event {
	var list []event
	for range d.below(12) {
		times := []int{first, first, end - 1, end, end + 1, d.between(first, end), d.below(m.Until + 1)}
		e := event{T: min(m.Until, times[d.below(7)]), To: d.below(len(m.Rules)), From: d.between(-1, len(m.Rules)-1), Seq: d.below(12), Kind: d.below(3), Data: d.below(97)}
		if !slices.Contains(list, e) {
			list = impl.EvtPut(list, e)
		}
	}
	return list
}

// strangePasses are several drawn simulators of every model.
func strangePasses(seed uint64) []pass {
	d := &draw{at: seed}
	list := []pass{{someModel(), someSim()}}
	for _, m := range windowModels() {
		for range 6 {
			list = append(list, d.pass(m))
		}
	}
	return list
}

// features are what makes windows differ from each other, with the number of windows that have it.
type features map[string]int

func (f features) add(p pass) {
	window := p.eventsByDefinition()
	if len(window) == 0 {
		f["nothing pending"]++
		return
	}
	perComp, perTime := map[int]int{}, map[int]int{}
	for _, e := range window {
		perComp[e.To]++
		perTime[e.T]++
	}
	rest := p.S.Wait[len(window):]
	for name, is := range map[string]bool{
		"one event":                    len(window) == 1,
		"several components":           len(perComp) > 1,
		"all components":               len(perComp) == impl.CmpMost,
		"several events of one":        len(perComp) < len(window),
		"several events at one time":   len(perTime) < len(window),
		"several times":                len(perTime) > 1,
		"an event just before the end": window[len(window)-1].T == p.end()-1,
		"an event exactly at the end":  len(rest) > 0 && rest[0].T == p.end(),
		"an event just behind the end": len(rest) > 0 && rest[0].T == p.end()+1,
		"all pending events":           len(rest) == 0,
		"one time unit":                widthByDefinition(p.M) == 1,
		"no bound":                     widthByDefinition(p.M) == p.M.Until+1,
	} {
		if is {
			f[name]++
		}
	}
	f.addSends(p, window, perComp)
}

// addSends counts windows by what their events send.
func (f features) addSends(p pass, window []event, perComp map[int]int) {
	found := map[string]bool{"nothing is sent": true}
	for _, e := range window {
		if p.S.Comps[e.To].Seq == impl.SeqMost {
			found["a component at SeqMost"] = true
		}
		for _, made := range p.sentBy(e) {
			delete(found, "nothing is sent")
			switch {
			case made.To == e.To:
				found["sent to itself"] = true
			case perComp[made.To] > 0:
				found["sent to another one in the window"] = true
			default:
				found["sent to another one"] = true
			}
		}
	}
	for name := range found {
		f[name]++
	}
}

// check fails unless all features are there so often.
func (f features) check(t *testing.T, often int) {
	t.Helper()
	if len(f) != 18 {
		t.Fatalf("%d features: %v", len(f), f)
	}
	for name, n := range f {
		if n < often {
			t.Errorf("%s: only in %d windows", name, n)
		}
	}
}

func TestStrangePassesAreValidAndVaried(t *testing.T) {
	f := features{}
	for _, p := range strangePasses(401) {
		if !p.ok() {
			t.Fatal(p)
		}
		f.add(p)
	}
	f.check(t, 100)
}

func TestAllPassesAreVaried(t *testing.T) {
	f := features{}
	for _, m := range windowModels() {
		for _, p := range allPasses(t, m) {
			f.add(p)
		}
	}
	f.check(t, 20)
}
