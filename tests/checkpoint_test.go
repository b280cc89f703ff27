package tests

import (
	"math"
	"slices"
	"testing"

	"loop.example/turnback/impl"
)

// Promise 81.

func TestSavedStatesAreAsDefined(t *testing.T) {
	for _, s := range manySavings() {
		if got, want := s.run(), s.byDefinition(); !slices.Equal(got, want) {
			t.Fatalf("every %d: %v, not %v: %v", s.Every, got, want, s.Of)
		}
	}
}

func TestSavedStatesAreTheRecordedOnes(t *testing.T) {
	for _, s := range manySavings() {
		got, done := s.run(), s.Of.H.Done
		if len(got) != (len(done)+s.Every-1)/s.Every {
			t.Fatalf("every %d: %d of %d states", s.Every, len(got), len(done))
		}
		for i, x := range got {
			if x.At != i*s.Every || x.State != done[x.At].Before {
				t.Fatalf("every %d: %v is saved before %v", s.Every, x, done[x.At])
			}
		}
	}
}

func TestSavedStatesOfSomeHost(t *testing.T) {
	first, second, third := comp{S: 2, Seq: 3, Count: 9}, comp{S: 33, Seq: 5, Count: 10}, comp{S: 0, Seq: 5, Count: 11}
	for every, want := range map[int][]saved{
		1:  {savedAt(0, first), savedAt(1, second), savedAt(2, third)},
		2:  {savedAt(0, first), savedAt(2, third)},
		3:  {savedAt(0, first)},
		4:  {savedAt(0, first)},
		50: {savedAt(0, first)},
	} {
		if got := (saving{someScene(), every}).run(); !slices.Equal(got, want) {
			t.Errorf("every %d: %v, not %v", every, got, want)
		}
	}
}

// The least and the greatest number of processed events of which so many states are saved, at each distance.
func TestSavedStatesAroundEveryDistance(t *testing.T) {
	for every := 1; every <= 50; every++ {
		for want, ns := range [][]int{{0}, {1, every}, {every + 1, 2 * every}, {2*every + 1, 3 * every}} {
			for _, n := range ns {
				if got := (saving{longScene(1, 20, n), every}).run(); len(got) != want {
					t.Errorf("every %d of %d: %v", every, n, got)
				}
			}
		}
	}
}

func TestNothingIsSavedAtOtherDistances(t *testing.T) {
	for _, s := range append(longScenes(), someScene()) {
		for _, every := range []int{math.MinInt, -50, -2, -1, 0, 51, 52, 100, math.MaxInt32, math.MaxInt} {
			if got := (saving{s, every}).run(); len(got) != 0 {
				t.Errorf("every %d: %v", every, got)
			}
		}
	}
}

// checkNotSaved fails if any state of the host is saved.
func checkNotSaved(t *testing.T, name string, s scene) {
	t.Helper()
	for _, every := range append(distances(), -1, 0, 51) {
		if got := (saving{s, every}).run(); len(got) != 0 {
			t.Errorf("%s, every %d: %v", name, every, got)
		}
	}
}

func TestNothingIsSavedOfInvalidHosts(t *testing.T) {
	for _, m := range badModels() {
		checkNotSaved(t, "an invalid model", scene{m, 0, someHost()})
		checkNotSaved(t, "an invalid model", scene{m, 0, host{}})
	}
	for _, c := range []int{math.MinInt, -2, -1, 1, 2, 3, 4, math.MaxInt} {
		checkNotSaved(t, "another component", scene{someModel(), c, someHost()})
	}
	for _, change := range []func(*host){
		func(h *host) { h.Now.S++ },
		func(h *host) { h.Ids = 10000 },
		func(h *host) { h.Ids = 0 },
		func(h *host) { h.Done[1].S++ },
		func(h *host) { h.Done[0].Before.S++ },
		func(h *host) { h.Done[2].Sent = nil },
		func(h *host) { h.Done = h.Done[:2] },
		func(h *host) { h.Wait[0], h.Wait[1] = h.Wait[1], h.Wait[0] },
		func(h *host) { h.Wait = append(h.Wait, h.Wait[3]) },
		func(h *host) { h.Anti[0].Ev.To = 1 },
		func(h *host) { h.Keep[0].Sent.Id = 8 },
	} {
		s := someScene()
		change(&s.H)
		checkNotSaved(t, "an invalid host", s)
	}
}

// Promise 82.

func TestSearchesAreAsDefined(t *testing.T) {
	for _, s := range manySearches() {
		if got, want := s.run(), s.byDefinition(); got != want {
			t.Fatalf("%d, not %d: %v", got, want, s)
		}
	}
}

func TestNearestSavedStateIsUsed(t *testing.T) {
	for _, s := range manySearches() {
		got := s.run()
		for i, x := range s.List {
			nearer := x.At <= s.At && (got < 0 || x.At > s.List[got].At || x.At == s.List[got].At && i > got)
			if nearer {
				t.Fatalf("%d, but element %d is nearer: %v", got, i, s)
			}
		}
		if got < -1 || got >= len(s.List) || got >= 0 && s.List[got].At > s.At {
			t.Fatalf("%d: %v", got, s)
		}
	}
}

// An index that is saved itself, one ahead of it and one behind it, in a list of every length up to some.
func TestSearchesInOrderedLists(t *testing.T) {
	for n := range 70 {
		var list []saved
		for i := range n {
			list = append(list, saved{At: 10 * i})
		}
		for i := range n {
			for at, want := range map[int]int{10*i - 9: i - 1, 10*i - 1: i - 1, 10 * i: i, 10*i + 1: i} {
				if got := (search{list, at}).run(); got != want {
					t.Fatalf("%d of %d states: before %d it is %d, not %d", i, n, at, got, want)
				}
			}
		}
		for at, want := range map[int]int{math.MinInt: -1, -1: -1, math.MaxInt: n - 1} {
			if got := (search{list, at}).run(); got != want {
				t.Errorf("of %d states: before %d it is %d, not %d", n, at, got, want)
			}
		}
	}
}

func TestSearchesInOtherLists(t *testing.T) {
	for _, test := range []struct {
		ats  []int
		at   int
		want int
	}{
		{nil, 0, -1},
		{nil, math.MaxInt, -1},
		{[]int{5}, 4, -1},
		{[]int{5}, 5, 0},
		{[]int{5, 5, 5}, 5, 2},
		{[]int{5, 5, 5}, 9, 2},
		{[]int{5, 5, 5}, 4, -1},
		{[]int{0, 5, 5, 5, 7}, 6, 3},
		{[]int{9, 6, 3, 0}, 7, 1},
		{[]int{9, 6, 3, 0}, 2, 3},
		{[]int{5, 0, 5, 0, 9}, 8, 2},
		{[]int{5, 0, 5, 0, 9}, 4, 3},
		{[]int{-3, -1, -2}, -1, 1},
		{[]int{-3, -1, -2}, -2, 2},
		{[]int{-3, -1, -2}, 0, 1},
		{[]int{-3, -1, -2}, -4, -1},
		{[]int{math.MaxInt, 4, math.MinInt}, 4, 1},
		{[]int{math.MaxInt, 4, math.MinInt}, 3, 2},
		{[]int{math.MaxInt, 4, math.MinInt}, math.MinInt, 2},
		{[]int{math.MaxInt, 4, math.MinInt}, math.MaxInt, 0},
		{[]int{math.MaxInt, 4, math.MinInt}, math.MaxInt - 1, 1},
		{[]int{math.MinInt + 1}, math.MinInt, -1},
	} {
		var list []saved
		for _, at := range test.ats {
			list = append(list, saved{At: at, State: comp{S: 97, Count: -at}})
		}
		if got := (search{list, test.at}).run(); got != test.want {
			t.Errorf("%v before %d: %d, not %d", test.ats, test.at, got, test.want)
		}
	}
}

// Promise 10.

// checkRestored fails unless all states of a host are reconstructed, each from as few events as possible.
func checkRestored(t *testing.T, s saving) {
	t.Helper()
	n := len(s.Of.H.Done)
	for at := range n + 1 {
		want := coasted{C: stateBefore(s.Of.H, at), N: at % s.Every, Ok: true}
		switch {
		case n == 0:
			// No state is saved, not even the current one.
			want = coasted{}
		case at == n && want.N == 0:
			want.N = s.Every
		}
		if got := s.before(at).run(); got != want {
			t.Fatalf("every %d: %+v, not %+v: %v", s.Every, got, want, s.before(at))
		}
	}
	for _, at := range append(extremes(), n+1, n+s.Every) {
		if got := s.before(at).run(); got != (coasted{}) {
			t.Fatalf("every %d: %+v: %v", s.Every, got, s.before(at))
		}
	}
}

func TestCoastingForwardReconstructsTheState(t *testing.T) {
	for _, s := range manyScenes() {
		for _, every := range distances() {
			checkRestored(t, saving{s, every})
		}
	}
}

func TestCoastingForwardReconstructsStatesOfLongHosts(t *testing.T) {
	for _, s := range longScenes() {
		for _, every := range []int{1, 2, 3, 7, 49, 50} {
			checkRestored(t, saving{s, every})
		}
	}
	for every := 1; every <= 50; every++ {
		for _, n := range []int{every - 1, every, every + 1} {
			checkRestored(t, saving{longScene(4, 99, n), every})
		}
	}
}

func TestCoastingForwardInParallelSimulations(t *testing.T) {
	several := 0
	d := &draw{at: 613}
	for i, m := range manyModels() {
		if i%4 != 0 {
			continue
		}
		for _, lazy := range []bool{false, true} {
			d.walk(m, lazy, manner(i)%manners, 40, func(w world, a action, next world) {
				if a.At < 0 || a.At >= len(next.Hosts) || a.Kind != impl.ActDo && a.Kind != impl.ActFree {
					return
				}
				s := sceneOf(next, a.At)
				checkRestored(t, saving{s, 1 + d.below(4)})
				several += min(1, len(s.H.Done)/2)
			})
		}
	}
	if several < 200 {
		t.Fatalf("only %d hosts have processed several events", several)
	}
}

func TestCoastsAreAsDefined(t *testing.T) {
	for _, c := range manyCoasts(607, 60) {
		if got, want := c.run(), c.byDefinition(); got != want {
			t.Fatalf("%+v, not %+v: %v", got, want, c)
		}
	}
}

// trail are events, and the states before each of them and behind the last one.
type trail struct {
	m      model
	events []event
	states []comp
}

func newTrail(m model, c comp, events ...event) trail {
	p := trail{m, events, []comp{c}}
	for _, e := range events {
		c, _ = impl.CmpDo(m, c, e)
		p.states = append(p.states, c)
	}
	return p
}

// someTrail has six events, each of which leads to another state.
func someTrail() trail {
	m := lone(2, 3, 5, send{Delay: 1, Mod: 2})
	list := []event{}
	for i := range 6 {
		list = append(list, event{T: 4 * i, From: -1, Seq: i, Data: 10 * i})
	}
	return newTrail(m, comp{S: 7, Seq: 1, Count: 3}, list...)
}

// from is a saved state of the trail.
func (p trail) from(at int) saved {
	return savedAt(at, p.states[at])
}

func (p trail) coast(at int, list ...saved) coast {
	return coast{p.m, p.events, list, at}
}

// check fails unless the state before the event is reconstructed from that at another index; from -1, unless there is none.
func (p trail) check(t *testing.T, from, at int, list ...saved) {
	t.Helper()
	want := coasted{}
	if from >= 0 {
		want = coasted{p.states[at], at - from, true}
	}
	if got := p.coast(at, list...).run(); got != want {
		t.Errorf("%+v, not %+v: %v", got, want, p.coast(at, list...))
	}
}

func TestCoastingFromEverySavedState(t *testing.T) {
	p := someTrail()
	if want := (comp{S: 48, Seq: 4, Count: 9}); p.states[6] != want {
		t.Fatal(p.states)
	}
	for from := range 7 {
		for at := range 7 {
			if from <= at {
				p.check(t, from, at, p.from(from))
			} else {
				p.check(t, -1, at, p.from(from))
			}
		}
	}
}

// What is saved elsewhere does not matter, whether it is right or not.
func TestCoastingFromTheNearestSavedState(t *testing.T) {
	p := someTrail()
	for from := range 7 {
		for at := from; at < 7; at++ {
			var list []saved
			for other := -2; other < 9; other++ {
				if other < from || other > at {
					list = append(list, savedAt(other, comp{S: 96 + other%2, Seq: 3}))
				}
			}
			list = append(list, savedAt(math.MinInt, comp{}), savedAt(math.MaxInt, comp{}))
			for place := range len(list) + 1 {
				p.check(t, from, at, slices.Insert(slices.Clone(list), place, p.from(from))...)
			}
			slices.Reverse(list)
			p.check(t, from, at, append(list, p.from(from))...)
			p.check(t, from, at, slices.Insert(list, 0, p.from(from))...)
		}
	}
}

func TestCoastingFromTheLastOfSeveralSavedStates(t *testing.T) {
	p := someTrail()
	wrong := savedAt(2, comp{S: 50})
	invalid := savedAt(2, comp{S: 97})
	for at := 2; at < 7; at++ {
		p.check(t, 2, at, wrong, p.from(2))
		p.check(t, 2, at, invalid, p.from(2))
		p.check(t, 2, at, p.from(2), wrong, p.from(2))
		p.check(t, 2, at, p.from(0), wrong, invalid, p.from(2), p.from(1))
		p.check(t, -1, at, p.from(2), invalid)
		p.check(t, -1, at, p.from(0), p.from(2), invalid, p.from(1))
	}
	if got := p.coast(2, p.from(2), wrong).run(); got != (coasted{wrong.State, 0, true}) {
		t.Error(got)
	}
}

// There is no other try with a saved state that would do.
func TestCoastingFromInvalidStates(t *testing.T) {
	p := someTrail()
	for _, c := range []comp{{S: -1}, {S: 97}, {S: math.MinInt}, {S: math.MaxInt}, {Seq: -1}, {Seq: 13}, {Seq: math.MaxInt}, {Count: -1}, {Count: math.MinInt}} {
		for from := range 7 {
			for at := range 7 {
				bad := savedAt(from, c)
				want := -1
				if at < from {
					want = 0
				}
				p.check(t, want, at, p.from(0), bad)
				p.check(t, -1, at, bad)
			}
		}
	}
}

func TestCoastingWithoutSavedStates(t *testing.T) {
	p := someTrail()
	for at := range 7 {
		p.check(t, -1, at)
		p.check(t, -1, at, []saved{}...)
		for behind := at + 1; behind < 10; behind++ {
			p.check(t, -1, at, savedAt(behind, p.states[0]))
		}
		p.check(t, -1, at, savedAt(math.MaxInt, p.states[0]))
	}
	if got := (coast{M: p.m}).run(); got != (coasted{}) {
		t.Error(got)
	}
}

func TestCoastingFromNegativeIndices(t *testing.T) {
	p := someTrail()
	for at := range 7 {
		for _, below := range []int{-1, -2, -7, math.MinInt} {
			p.check(t, -1, at, savedAt(below, p.states[0]))
			p.check(t, -1, at, savedAt(below, p.states[0]), savedAt(-1, p.states[0]))
			p.check(t, 0, at, p.from(0), savedAt(below, p.states[0]))
		}
	}
	for _, at := range []int{-1, -2, math.MinInt} {
		p.check(t, -1, at, savedAt(at, p.states[0]))
	}
}

func TestCoastingBeforeEventsThatDoNotExist(t *testing.T) {
	p := someTrail()
	for _, at := range append(extremes(), 7, 8) {
		p.check(t, -1, at, p.from(0))
		p.check(t, -1, at, p.from(0), p.from(6), savedAt(at, p.states[0]))
	}
	// Without events there is only the state behind the last one.
	none := newTrail(p.m, comp{S: 5, Seq: 12, Count: math.MaxInt})
	none.check(t, 0, 0, none.from(0))
	for _, at := range append(extremes(), 1, 2) {
		none.check(t, -1, at, none.from(0))
	}
}

// An event that CmpDo does not process matters only if it is processed again.
func TestCoastingAcrossInvalidEvents(t *testing.T) {
	p := someTrail()
	bad := []event{{T: 21, From: -1}, {T: 99, From: -1, Kind: 2}, {To: 1, From: -1}, {From: 1}}
	for _, f := range fields() {
		for _, n := range []int{math.MinInt, f.low - 1, f.high + 1, math.MaxInt} {
			bad = append(bad, with(event{From: -1}, f, n))
		}
	}
	for _, e := range bad {
		for place := range 6 {
			broken := p
			broken.events = slices.Clone(p.events)
			broken.events[place] = e
			for from := range 7 {
				for at := from; at < 7; at++ {
					want := from
					if from <= place && place < at {
						want = -1
					}
					broken.check(t, want, at, p.from(from))
				}
			}
		}
	}
}

func TestCoastingInInvalidModels(t *testing.T) {
	e := event{From: -1}
	for _, m := range badModels() {
		for at := range 2 {
			for _, list := range [][]event{nil, {e}, {e, e}} {
				if got := (coast{m, list, []saved{{}, {At: 1}}, at}).run(); got != (coasted{}) {
					t.Errorf("%+v of %v", got, m)
				}
			}
		}
	}
}

func TestCoastingAroundTheEnd(t *testing.T) {
	for _, until := range []int{0, 1, 20, 98, 99} {
		m := lone(2, 3, 5, send{Delay: 1, Mod: 1})
		m.Until = until
		last := event{T: until, From: -1, Data: 9}
		p := newTrail(m, comp{S: 4}, event{From: -1}, last, last)
		if p.states[3].Count != 3 || p.states[3].Seq != 3 {
			t.Fatal(p)
		}
		p.check(t, 0, 3, p.from(0))
		p.events[1].T++
		p.check(t, 0, 1, p.from(0))
		p.check(t, -1, 2, p.from(0))
		p.check(t, 2, 3, p.from(0), p.from(2))
	}
}

// Only Count changes without a rule; behind SeqMost sends nothing is sent any more.
func TestCoastingWithoutRulesAndSends(t *testing.T) {
	m := lone(2, 3, 5, send{Delay: 1, Mod: 1}, send{Delay: 9, Mod: 1})
	p := newTrail(m, comp{S: 1, Seq: 9}, event{From: -1, Kind: 1, Data: 7}, event{From: -1, Data: 1}, event{From: -1, Kind: 2, Data: 96}, event{From: -1, Data: 2}, event{From: -1, Data: 3})
	want := []comp{
		{S: 1, Seq: 9, Count: 0},
		{S: 1, Seq: 9, Count: 1},
		{S: 10, Seq: 11, Count: 2},
		{S: 10, Seq: 11, Count: 3},
		{S: 31, Seq: 12, Count: 4},
		{S: 76, Seq: 12, Count: 5},
	}
	if !slices.Equal(p.states, want) {
		t.Fatal(p.states)
	}
	for from := range 6 {
		for at := from; at < 6; at++ {
			p.check(t, from, at, p.from(from))
		}
	}
	for many := 1; many <= 4; many++ {
		m := model{Rules: make([][]rule, many), Until: 99}
		e := event{T: 99, To: many - 1, From: many - 1, Seq: 11, Kind: 2, Data: 96}
		got := coast{m, []event{e, e, e}, []saved{savedAt(0, comp{S: 96, Seq: 12, Count: 4})}, 3}.run()
		if got != (coasted{comp{S: 96, Seq: 12, Count: 7}, 3, true}) {
			t.Error(got)
		}
	}
}

// CmpDo of a valid state may lead to a Count that is none, from which it leads nowhere.
func TestCoastingAtTheGreatestCount(t *testing.T) {
	p := someTrail()
	list := []saved{savedAt(1, comp{S: 7, Count: math.MaxInt - 1})}
	for at, want := range map[int]coasted{
		1: {list[0].State, 0, true},
		2: {comp{S: 49, Count: math.MaxInt}, 1, true},
		3: {comp{S: 66, Seq: 1, Count: math.MinInt}, 2, true},
		4: {},
		6: {},
	} {
		if got := p.coast(at, list...).run(); got != want {
			t.Errorf("before %d: %+v, not %+v", at, got, want)
		}
	}
}

// Each event is processed by the rule of its own receiver.
func TestCoastingByTheRuleOfTheReceiver(t *testing.T) {
	for many := 1; many <= 4; many++ {
		m := longModel(many, 99)
		var list []event
		for to := range many {
			for kind := range 3 {
				list = append(list, event{T: 5 * to, To: to, From: many - 1, Kind: kind, Data: 30})
			}
		}
		p := newTrail(m, comp{S: 3}, list...)
		s, count := 3, 0
		for c := range many {
			s = (2*s + 95 + c) % 97
			s = (96*s + 1 + c) % 97
			if count += 3; p.states[count].S != s || p.states[count].Count != count {
				t.Fatalf("%v, not %d", p.states, s)
			}
		}
		for from := range p.states {
			for at := from; at < len(p.states); at++ {
				p.check(t, from, at, p.from(from))
			}
		}
	}
}

// CkpBefore processes as many events again as there are; only CkpCost has a greatest number.
func TestCoastingAcrossManyEvents(t *testing.T) {
	m := lone(1, 0, 1)
	p := newTrail(m, comp{}, slices.Repeat([]event{{From: -1}}, 1500)...)
	p.check(t, 0, 1500, p.from(0))
	p.check(t, 700, 1400, p.from(700))
}

func TestCoastingOfTheExample(t *testing.T) {
	m := exampleModel()
	s := scene{m, 0, host{Wait: []item{
		numbered(event{From: -1}, 0),
		numbered(event{T: 5, To: 0, From: 1, Data: 1}, 0),
		numbered(event{T: 10, To: 0, From: 1, Seq: 1, Data: 2}, 1),
	}}}.doAll()
	if s.H.Now != (comp{S: 3, Seq: 3, Count: 3}) {
		t.Fatal(s.H)
	}
	two := saving{s, 2}
	if got := two.run(); !slices.Equal(got, []saved{{}, savedAt(2, comp{S: 2, Seq: 2, Count: 2})}) {
		t.Error(got)
	}
	for at, want := range []coasted{
		{comp{}, 0, true},
		{comp{S: 1, Seq: 1, Count: 1}, 1, true},
		{comp{S: 2, Seq: 2, Count: 2}, 0, true},
		{comp{S: 3, Seq: 3, Count: 3}, 1, true},
	} {
		if got := two.before(at).run(); got != want {
			t.Errorf("before %d: %+v, not %+v", at, got, want)
		}
	}
}

// Promise 83.

func TestCostsAreAsDefined(t *testing.T) {
	for every := 1; every <= 50; every++ {
		states, most, again := 0, 0, 0
		for n := range 1001 {
			if got := impl.CkpCost(n, every); got != states+most {
				t.Fatalf("every %d of %d: %d, not %d and %d", every, n, got, states, most)
			}
			// One more event, with the index n.
			if again++; n%every == 0 {
				states, again = states+1, 0
			}
			most = max(most, again)
		}
	}
}

func TestSavingEveryStateCostsOnePerEvent(t *testing.T) {
	for n := range 1001 {
		if got := impl.CkpCost(n, 1); got != n {
			t.Errorf("%d events: %d", n, got)
		}
		root := 0
		for (root+1)*(root+1) <= n {
			root++
		}
		for every := 1; every <= 50; every++ {
			if got := impl.CkpCost(n, every); got < 2*root-1 {
				t.Errorf("every %d of %d: %d, but the root is %d", every, n, got, root)
			}
		}
	}
}

func TestSomeCosts(t *testing.T) {
	for _, test := range []struct{ n, every, want int }{
		{0, 1, 0}, {0, 3, 0}, {0, 50, 0},
		{1, 1, 1}, {1, 2, 1}, {1, 50, 1},
		{2, 1, 2}, {2, 2, 2}, {2, 3, 2}, {3, 2, 3}, {3, 50, 3},
		{10, 1, 10}, {10, 2, 6}, {10, 3, 6}, {10, 5, 6}, {10, 9, 10}, {10, 10, 10}, {10, 11, 10},
		{49, 50, 49}, {50, 50, 50}, {51, 50, 51}, {49, 7, 13}, {50, 7, 14},
		{1000, 1, 1000}, {1000, 2, 501}, {1000, 32, 63}, {1000, 40, 64}, {1000, 49, 69}, {1000, 50, 69},
	} {
		if got := impl.CkpCost(test.n, test.every); got != test.want {
			t.Errorf("every %d of %d: %d, not %d", test.every, test.n, got, test.want)
		}
	}
}

func TestCostIsWhatHostsNeed(t *testing.T) {
	for _, s := range longScenes() {
		for every := 1; every <= 50; every++ {
			c, most := saving{s, every}.before(0), 0
			for c.At = range c.Events {
				most = max(most, c.run().N)
			}
			if got, want := impl.CkpCost(len(c.Events), every), len(c.List)+most; got != want {
				t.Errorf("every %d of %d: %d, not %d", every, len(c.Events), got, want)
			}
		}
	}
}

func TestNoCosts(t *testing.T) {
	for _, n := range []int{math.MinInt, -1000, -1, 0, 1, 500, 1000, 1001, 1002, math.MaxInt} {
		for _, every := range []int{math.MinInt, -50, -1, 0, 1, 50, 51, 52, math.MaxInt} {
			none := n < 0 || n > 1000 || every < 1 || every > 50
			if got := impl.CkpCost(n, every); (got == -1) != none || got < -1 {
				t.Errorf("every %d of %d: %d", every, n, got)
			}
		}
	}
}

// Promise 136.

// checkCancelled fails unless the host, when it cancels a processed item, returns to the state before its event.
func checkCancelled(t *testing.T, s saving, at int, lazy bool) {
	t.Helper()
	it := s.Of.H.Done[at].It
	back := s.Of.at(s.Of.put(message{Off: true, It: it}, lazy).H)
	if want := s.before(at).run(); !want.Ok || back.H.Now != want.C || len(back.H.Done) != at {
		t.Fatalf("every %d, item %d, lazy %v: %v, not %+v: %v", s.Every, at, lazy, back.H, want, s)
	}
	var stay []saved
	for _, x := range s.run() {
		if x.At < at {
			stay = append(stay, x)
		}
	}
	if got := (saving{back, s.Every}).run(); !slices.Equal(got, stay) {
		t.Fatalf("every %d, item %d, lazy %v: %v is saved, not %v", s.Every, at, lazy, got, stay)
	}
}

func TestRollbackAndCoastingForwardAgree(t *testing.T) {
	tried := 0
	for _, s := range manyScenes() {
		for at, d := range s.H.Done {
			// Such an anti-message is not new.
			if slices.Contains(s.H.Anti, d.It) {
				continue
			}
			for _, every := range distances() {
				for _, lazy := range []bool{false, true} {
					checkCancelled(t, saving{s, every}, at, lazy)
					tried++
				}
			}
		}
	}
	if tried < 10000 {
		t.Fatalf("only %d items were cancelled", tried)
	}
}

func TestRollbackOfLongHostsAndCoastingForwardAgree(t *testing.T) {
	for _, s := range []scene{longScene(1, 0, 30), longScene(4, 20, 101), longScene(1, 99, 60)} {
		for at := range s.H.Done {
			for _, every := range []int{1, 4, 50} {
				checkCancelled(t, saving{s, every}, at, at%2 == 0)
			}
		}
	}
}

// A straggler takes back whatever is greater.
func TestStragglersAndCoastingForwardAgree(t *testing.T) {
	d := &draw{at: 617}
	back := 0
	for _, s := range manyScenes() {
		for _, lazy := range []bool{false, true} {
			it := d.item(s, nil)
			got := s.put(message{It: it}, lazy).H
			if slices.Contains(s.H.Anti, it) || slices.Contains(s.H.Wait, it) || slices.Contains(doneItems(s.H), it) || len(s.H.Done) == 0 {
				continue
			}
			at := 0
			for at < len(s.H.Done) && impl.ItmLess(s.H.Done[at].It, it) {
				at++
			}
			if at < len(s.H.Done) {
				back++
			}
			for _, every := range distances() {
				if want := (saving{s, every}).before(at).run(); !want.Ok || got.Now != want.C {
					t.Fatalf("every %d, %v, lazy %v: %v, not %+v: %v", every, it, lazy, got, want, s)
				}
			}
		}
	}
	if back < 500 {
		t.Fatalf("only %d stragglers", back)
	}
}

// Memory.

func TestSavingsOwnTheirMemory(t *testing.T) {
	scenes := []scene{someScene(), longScene(1, 20, 9), {}, {badModels()[3], 0, someHost()}, {someModel(), 3, someHost()}}
	for i, s := range manyScenes() {
		if i%40 == 0 {
			scenes = append(scenes, s)
		}
	}
	for _, s := range scenes {
		for _, every := range []int{0, 1, 2, 50, 51} {
			checkOwned(t, "CkpSave", saving{s, every}, saving.run)
		}
	}
	for _, s := range append(manySearches()[:2000], search{}) {
		checkOwned(t, "CkpLast", s, search.run)
	}
	p := someTrail()
	for _, c := range append(manyCoasts(619, 5), coast{}, coast{M: badModels()[3]}, p.coast(6, p.from(3), p.from(0)), p.coast(7, p.from(0)), p.coast(6, saved{})) {
		checkOwned(t, "CkpBefore", c, coast.run)
	}
}
