package tests

import (
	"fmt"
	"math"
	"slices"
	"testing"

	"loop.example/turnback/impl"
)

type (
	cautious = impl.CmbState
	waiter   = impl.CmbHost
)

// caution is a conservative simulation of a model.
type caution struct {
	M model
	S cautious
}

// handled is a simulation after CmbDo, and whether an event was processed.
type handled struct {
	S   cautious
	Did bool
}

// fresh is a simulation that has done nothing of a model yet.
func fresh(m model) caution { return caution{m, impl.CmbNew(m)} }

func (c caution) ok() bool                { return impl.CmbOk(c.M, c.S) }
func (c caution) safe(at int) int         { return impl.CmbSafe(c.M, c.S, at) }
func (c caution) null(at int) cautious    { return impl.CmbNull(c.M, c.S, at) }
func (c caution) with(s cautious) caution { return caution{c.M, s} }

func (c caution) do(at int) handled {
	s, did := impl.CmbDo(c.M, c.S, at)
	return handled{s, did}
}

// nullAll lets every host send null messages, in order, so many times.
func (c caution) nullAll(times int) caution {
	for range times {
		for at := range c.S.Hosts {
			c = c.with(c.null(at))
		}
	}
	return c
}

// pending says whether any host has a pending event.
func (c caution) pending() bool {
	return slices.ContainsFunc(c.S.Hosts, func(h waiter) bool { return len(h.Wait) > 0 })
}

// ready says whether some host can process its first event.
func (c caution) ready() bool {
	for at := range c.S.Hosts {
		if c.do(at).Did {
			return true
		}
	}
	return false
}

// String is what a failed test tells of a simulation.
func (c caution) String() string {
	return fmt.Sprintf("hosts %v\nrecords %v\nof %v", c.S.Hosts, c.S.Logs, c.M)
}

// lookByDefinition is CmbLook as the document describes it.
func lookByDefinition(m model, from, to int) int {
	if !impl.MdlOk(m) || !inRange(from, 0, len(m.Rules)-1) || !inRange(to, 0, len(m.Rules)-1) {
		return -1
	}
	least := m.Until + 1
	for _, r := range m.Rules[from] {
		for _, x := range r.Sends {
			if x.To == to && x.Delay < least {
				least = x.Delay
			}
		}
	}
	return least
}

// freshByDefinition is CmbNew as the document describes it.
func freshByDefinition(m model) cautious {
	if !impl.MdlOk(m) {
		return cautious{}
	}
	s := cautious{Hosts: make([]waiter, len(m.Rules)), Logs: make([][]record, len(m.Rules))}
	for c := range s.Hosts {
		s.Hosts[c].In = make([]int, len(m.Rules))
	}
	for _, e := range m.Starts {
		s.Hosts[e.To].Wait = append(s.Hosts[e.To].Wait, e)
	}
	return s
}

// okByDefinition is CmbOk as the document describes it.
func (c caution) okByDefinition() bool {
	n := len(c.M.Rules)
	if !impl.MdlOk(c.M) || len(c.S.Hosts) != n || len(c.S.Logs) != n {
		return false
	}
	for at, h := range c.S.Hosts {
		if !impl.CmpOk(h.Now) || len(h.In) != n || !c.eventsByDefinition(at) {
			return false
		}
		for _, bound := range h.In {
			if bound < 0 || bound > c.M.Until+1 {
				return false
			}
		}
	}
	return true
}

// eventsByDefinition says whether the pending events and the records of a host are valid.
func (c caution) eventsByDefinition(at int) bool {
	wait, log := c.S.Hosts[at].Wait, c.S.Logs[at]
	for i, e := range wait {
		if !impl.EvtOk(e, len(c.M.Rules)) || e.To != at || e.T > c.M.Until || i > 0 && !impl.EvtLess(wait[i-1], e) {
			return false
		}
	}
	for i, r := range log {
		if !impl.EvtOk(r.Ev, len(c.M.Rules)) || r.Ev.To != at || !inRange(r.S, 0, 96) || i > 0 && !impl.EvtLess(log[i-1].Ev, r.Ev) {
			return false
		}
		for _, e := range wait {
			if !impl.EvtLess(r.Ev, e) {
				return false
			}
		}
	}
	return true
}

// knows says whether the simulation is valid and there is such a host.
func (c caution) knows(at int) bool {
	return c.okByDefinition() && inRange(at, 0, len(c.M.Rules)-1)
}

// safeByDefinition is CmbSafe as the document describes it.
func (c caution) safeByDefinition(at int) int {
	if !c.knows(at) {
		return -1
	}
	return slices.Min(c.S.Hosts[at].In)
}

// doByDefinition is CmbDo as the document describes it.
func (c caution) doByDefinition(at int) handled {
	if !c.knows(at) {
		return handled{}
	}
	s := plain(c.S)
	h := &s.Hosts[at]
	if len(h.Wait) == 0 || h.Wait[0].T >= slices.Min(h.In) {
		return handled{S: s}
	}
	e := h.Wait[0]
	now, sent := impl.CmpDo(c.M, h.Now, e)
	h.Now, h.Wait = now, h.Wait[1:]
	s.Logs[at] = append(s.Logs[at], record{Ev: e, S: now.S})
	for _, made := range sent {
		to := &s.Hosts[made.To]
		to.Wait = append(to.Wait, made)
		slices.SortFunc(to.Wait, inEventOrder)
	}
	return handled{s, true}
}

// nullByDefinition is CmbNull as the document describes it.
func (c caution) nullByDefinition(at int) cautious {
	if !c.knows(at) {
		return cautious{}
	}
	s := plain(c.S)
	next := slices.Min(c.S.Hosts[at].In)
	for _, e := range c.S.Hosts[at].Wait {
		next = min(next, e.T)
	}
	for to := range s.Hosts {
		bound := next + lookByDefinition(c.M, at, to)
		if bound > c.M.Until+1 {
			bound = c.M.Until + 1
		}
		if bound > s.Hosts[to].In[at] {
			s.Hosts[to].In[at] = bound
		}
	}
	return s
}

// overByDefinition says whether every host has the safe time Until + 1 and nothing is pending.
func (c caution) overByDefinition() bool {
	for _, h := range c.S.Hosts {
		if len(h.Wait) > 0 || slices.Min(h.In) != c.M.Until+1 {
			return false
		}
	}
	return true
}

// roundByDefinition is a round of CmbAll as the document describes it.
func (c caution) roundByDefinition() caution {
	for at := range c.S.Hosts {
		c = c.with(c.nullByDefinition(at))
	}
	for at := range c.S.Hosts {
		for x := c.doByDefinition(at); x.Did; x = c.doByDefinition(at) {
			c = c.with(x.S)
		}
	}
	return c
}

func inEventOrder(a, b event) int {
	return itemInOrder(numbered(a, 0), numbered(b, 0))
}

// hub is a model in which nobody sends to component 0, component 1 sends to nobody, component 2 only to itself, and component 3 has a rule without sends.
func hub(until int) model {
	return model{
		Rules: [][]rule{
			{{A: 1, C: 1, Sends: []send{{To: 1, Delay: 4, Mod: 1}, {To: 1, Delay: 2, Kind: 1, Mod: 2}}}, {Kind: 1, A: 1, Sends: []send{{To: 3, Delay: 7, Mod: 1}}}},
			{},
			{{A: 2, B: 1, C: 1, Sends: []send{{To: 2, Delay: 3, Mod: 1}}}},
			{{A: 1, B: 3, C: 2}},
		},
		Starts: []event{{T: 0, To: 0, From: -1}, {T: 0, To: 2, From: -1}, {T: 0, To: 3, From: -1}},
		Until:  until,
	}
}

// passing is a model in which every component sends what it receives to the next one, with two external events at one timestamp for each of them.
func passing(many, delay, until int) model {
	m := model{Until: until}
	for c := range many {
		m.Rules = append(m.Rules, []rule{{A: 1, B: 1, C: c, Sends: []send{{To: (c + 1) % many, Delay: delay, Mod: 1}}}})
	}
	for i := range min(6, 2*many) {
		m.Starts = append(m.Starts, event{T: until / 2, To: i / 2, From: -1, Seq: i})
	}
	return m
}

// edgeModels have delays and ends at their bounds, hosts that nobody sends to, and components that send SeqMost events.
func edgeModels() []model {
	list := []model{hub(0), hub(1), hub(20), hub(99), someModel(), exampleModel(), endless(1, 6), endless(4, 6), endless(4, 0), plainModel(1, 0), plainModel(4, 99)}
	for _, until := range []int{0, 1, 5, 8, 9, 99} {
		for _, delay := range []int{1, 9, until, until + 1} {
			if delay == 0 || delay > 9 {
				continue
			}
			for many := 1; many <= 4; many++ {
				list = append(list, passing(many, delay, until))
			}
		}
	}
	return list
}

// cautionModels are the models of the tests of chapter 9.
func cautionModels() []model {
	return append(edgeModels(), manyModels()...)
}

// someCaution is valid for someModel. Host 0 may process its first event, host 1 may not, because it is exactly at its safe time, and nothing is pending at host 2.
func someCaution() caution {
	return caution{someModel(), cautious{
		Hosts: []waiter{
			{
				Now:  comp{S: 2, Seq: 3, Count: 9},
				Wait: []event{{T: 8, To: 0, From: -1, Data: 4}, {T: 8, To: 0, From: 1, Seq: 4, Kind: 1, Data: 1}, {T: 20, To: 0, From: 2, Seq: 11, Kind: 1, Data: 96}},
				In:   []int{10, 21, 9},
			},
			{
				Now:  comp{S: 1, Seq: 12, Count: 4},
				Wait: []event{{T: 9, To: 1, From: 0, Seq: 2, Kind: 1}},
				In:   []int{9, 12, 11},
			},
			{
				Now: comp{S: 96},
				In:  []int{0, 21, 5},
			},
		},
		Logs: [][]record{
			{{Ev: event{T: 0, To: 0, From: -1}, S: 0}, {Ev: event{T: 7, To: 0, From: 2, Kind: 1, Data: 96}, S: 96}},
			nil,
			{{Ev: event{T: 5, To: 2, From: 1, Seq: 7, Kind: 2, Data: 9}, S: 96}},
		},
	}}
}

// caution makes a valid simulation of a model that most often cannot have come about: nothing in it follows from anything else.
func (d *draw) caution(m model) caution {
	n := len(m.Rules)
	c := caution{M: m}
	for at := range n {
		h := waiter{Now: comp{S: d.below(97), Seq: d.between(0, 15) % 13, Count: d.below(99)}}
		for range n {
			h.In = append(h.In, min(m.Until+1, max(0, d.near(0, m.Until+1))))
		}
		list := d.addressed(m, at)
		split := d.below(len(list) + 1)
		h.Wait = list[split:]
		var log []record
		for _, e := range list[:split] {
			log = append(log, record{Ev: e, S: d.below(97)})
		}
		// Only pending events are bounded by the end.
		if len(h.Wait) == 0 && m.Until < 99 {
			log = append(log, record{Ev: event{T: d.between(m.Until+1, 99), To: at}})
		}
		c.S.Hosts, c.S.Logs = append(c.S.Hosts, h), append(c.S.Logs, log)
	}
	return c
}

// addressed are some events for a component, in order; several have the same timestamp.
func (d *draw) addressed(m model, to int) []event {
	var list []event
	for range d.below(6) {
		e := event{T: min(m.Until, d.below(m.Until+4)), To: to, From: d.between(-1, len(m.Rules)-1), Seq: d.below(12), Kind: d.below(3), Data: d.below(97)}
		if !slices.Contains(list, e) {
			list = impl.EvtPut(list, e)
		}
	}
	return list
}

// strangeCautions are several drawn simulations of every model.
func strangeCautions(seed uint64) []caution {
	d := &draw{at: seed}
	list := []caution{someCaution()}
	for _, m := range cautionModels() {
		for range 8 {
			list = append(list, d.caution(m))
		}
	}
	return list
}

// turn is a step of a host: it sends null messages, or processes an event if it can.
type turn struct {
	Null bool
	At   int
}

func (c caution) after(a turn) caution {
	if a.Null {
		return c.with(c.null(a.At))
	}
	return c.with(c.do(a.At).S)
}

// turn is the next one in a walk. There are walks with few null messages, with many, and with some hosts that send none for long.
func (d *draw) turn(c caution, how, step int) turn {
	a := turn{Null: d.below(10) < 2+how%4*2, At: d.below(len(c.S.Hosts))}
	if lazy := step / 30 % len(c.S.Hosts); how > 3 && a.Null && a.At == lazy {
		a.Null = false
	}
	return a
}

// manyTurns walks from CmbNew on with all models, and shows every step with the simulations before and after it.
func manyTurns(seed uint64, show func(c caution, a turn, next caution)) {
	d := &draw{at: seed}
	for i, m := range cautionModels() {
		c := fresh(m)
		for step := range min(400, 20+5*len(m.Rules)*m.Until) {
			a := d.turn(c, i%8, step)
			next := c.after(a)
			show(c, a, next)
			c = next
		}
	}
}

// noHosts are numbers of hosts that do not exist.
func noHosts(m model) []int {
	return []int{math.MinInt, -1, len(m.Rules), len(m.Rules) + 1, math.MaxInt}
}

func TestEdgeModelsAreValid(t *testing.T) {
	for _, m := range edgeModels() {
		if !impl.MdlOk(m) {
			t.Error(m)
		}
	}
}

func TestStrangeCautionsAreValidAndVaried(t *testing.T) {
	var ready, exact, early, idle, full, low, high int
	list := strangeCautions(211)
	for _, c := range list {
		if !c.okByDefinition() {
			t.Fatal(c)
		}
		for _, h := range c.S.Hosts {
			safe := slices.Min(h.In)
			switch {
			case len(h.Wait) == 0:
				idle++
			case h.Wait[0].T == safe:
				exact++
			case h.Wait[0].T == safe-1:
				early++
			case h.Wait[0].T < safe:
				ready++
			}
			if h.Now.Seq == impl.SeqMost {
				full++
			}
			if slices.Contains(h.In, 0) {
				low++
			}
			if slices.Contains(h.In, c.M.Until+1) {
				high++
			}
		}
	}
	for _, n := range []int{ready, exact, early, idle, full, low, high} {
		if n < 100 {
			t.Fatal(len(list), ready, exact, early, idle, full, low, high)
		}
	}
}

func TestManyTurnsAreVaried(t *testing.T) {
	var did, exact, early, stuck, idle, rose, kept, over int
	manyTurns(223, func(c caution, a turn, next caution) {
		h := c.S.Hosts[a.At]
		safe := slices.Min(h.In)
		switch {
		case a.Null && same(c.S, next.S):
			kept++
		case a.Null:
			rose++
		case len(h.Wait) == 0:
			idle++
		case h.Wait[0].T == safe:
			exact++
		case h.Wait[0].T > safe:
			stuck++
		default:
			did++
			if h.Wait[0].T == safe-1 {
				early++
			}
		}
		if c.overByDefinition() {
			over++
		}
	})
	for _, n := range []int{did, exact, early, stuck, idle, rose, kept, over} {
		if n < 100 {
			t.Fatal(did, exact, early, stuck, idle, rose, kept, over)
		}
	}
}
