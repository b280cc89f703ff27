package tests

import (
	"math"
	"slices"
	"testing"

	"loop.example/turnback/impl"
)

type (
	record    = impl.SeqRec
	simulator = impl.SeqState
)

// markRec and markComp are in no simulator of a test.
var (
	markRec  = record{Ev: mark, S: -7}
	markComp = comp{S: -7, Seq: -7, Count: -7}
)

func sameSim(a, b simulator) bool {
	return slices.Equal(a.Comps, b.Comps) && slices.Equal(a.Wait, b.Wait) && slices.Equal(a.Log, b.Log)
}

// copySim copies a simulator to memory of its own, with room behind the end of every list.
func copySim(s simulator) simulator {
	return simulator{Comps: guarded(s.Comps, markComp), Wait: guarded(s.Wait, mark), Log: guarded(s.Log, markRec)}
}

// wholeSim is a simulator with all the spare capacity of its lists.
func wholeSim(s simulator) simulator {
	return simulator{Comps: whole(s.Comps), Wait: whole(s.Wait), Log: whole(s.Log)}
}

func overwriteSim(s simulator) {
	overwrite(whole(s.Comps), markComp)
	overwrite(whole(s.Wait), mark)
	overwrite(whole(s.Log), markRec)
}

// checkSimKept fails if call writes to its arguments, or if its results share memory with them or with each other.
func checkSimKept(t *testing.T, m model, s simulator, call func(model, simulator) simulator) {
	t.Helper()
	checkModelKept(t, m, func(m model) []event {
		return call(m, s).Wait
	})
	arg, before := copySim(s), copySim(s)
	m = copyModel(m)
	first, second := call(m, arg), call(m, arg)
	want := copySim(first)
	overwriteSim(second)
	if !sameSim(wholeSim(arg), wholeSim(before)) {
		t.Fatalf("the simulator %v was changed to %v", wholeSim(before), wholeSim(arg))
	}
	overwriteSim(arg)
	overwriteModel(m)
	if !sameSim(first, want) {
		t.Fatalf("the result for %v shares memory with another result or an argument", s)
	}
}

// stepByDefinition is SeqStep of a valid simulator as the document describes it, with a list in order.
func stepByDefinition(m model, s simulator) simulator {
	e := s.Wait[0]
	c, sent := impl.CmpDo(m, s.Comps[e.To], e)
	next := simulator{Comps: slices.Clone(s.Comps), Wait: slices.Clone(s.Wait[1:]), Log: slices.Clone(s.Log)}
	next.Comps[e.To] = c
	for _, made := range sent {
		next.Wait = impl.EvtPut(next.Wait, made)
	}
	next.Log = append(next.Log, record{Ev: e, S: c.S})
	return next
}

// allSteps are all simulators from SeqNew on until nothing is pending.
func allSteps(t *testing.T, m model) []simulator {
	t.Helper()
	list := []simulator{impl.SeqNew(m)}
	for {
		next, did := impl.SeqStep(m, list[len(list)-1])
		if !did {
			return list
		}
		list = append(list, next)
		if len(list) > 100 {
			t.Fatalf("the simulation of %v does not end", m)
		}
	}
}

// badModels are invalid for one reason each.
func badModels() []model {
	list := []model{{}, {Until: 10}, {Rules: make([][]rule, 5)}}
	for _, f := range numbers() {
		for _, n := range []int{math.MinInt, f.low - 1, f.high + 1, math.MaxInt} {
			m := someModel()
			*f.of(&m) = n
			list = append(list, m)
		}
	}
	late, swapped, twice := someModel(), someModel(), someModel()
	late.Until = 19
	swapped.Starts[0], swapped.Starts[1] = swapped.Starts[1], swapped.Starts[0]
	twice.Starts[1] = twice.Starts[0]
	return append(list, late, swapped, twice)
}

// someSim is valid for someModel; its component 1 has sent SeqMost already, and several pending events have the same timestamp.
func someSim() simulator {
	return simulator{
		Comps: []comp{{S: 2, Seq: 3, Count: 9}, {S: 1, Seq: 12, Count: 4}, {S: 96}},
		Wait: []event{
			{T: 8, To: 0, From: -1, Data: 4},
			{T: 8, To: 1, From: -1, Seq: 4, Kind: 1, Data: 1},
			{T: 8, To: 1, From: 0, Seq: 2, Kind: 1},
			{T: 10, To: 2, From: 0, Seq: 1},
			{T: 20, To: 0, From: 2, Seq: 11, Kind: 1, Data: 96},
		},
		Log: []record{
			{Ev: event{T: 0, To: 0, From: -1}, S: 0},
			{Ev: event{T: 5, To: 2, From: 1, Seq: 7, Kind: 2, Data: 9}, S: 96},
			{Ev: event{T: 7, To: 1, From: 2, Kind: 1, Data: 96}, S: 1},
		},
	}
}

// checkSims fails unless all changed copies of someSim are valid for someModel, or invalid, for SeqOk and for SeqStep.
func checkSims(t *testing.T, want bool, changes ...func(*simulator)) {
	t.Helper()
	for i, change := range changes {
		s := someSim()
		change(&s)
		if impl.SeqOk(someModel(), s) != want {
			t.Errorf("change %d: SeqOk is not %v: %v", i, want, s)
		}
		next, did := impl.SeqStep(someModel(), s)
		if !want && (did || !sameSim(next, simulator{})) {
			t.Errorf("change %d: SeqStep of an invalid simulator: %v %v", i, next, did)
		}
		if want && (did != (len(s.Wait) > 0) || len(next.Comps) != 3) {
			t.Errorf("change %d: SeqStep of a valid simulator: %v %v", i, next, did)
		}
	}
}

// Promise 34.

func TestSeqNewHasDoneNothing(t *testing.T) {
	for _, m := range manyModels() {
		s := impl.SeqNew(m)
		if !slices.Equal(s.Comps, make([]comp, len(m.Rules))) || !slices.Equal(s.Wait, m.Starts) || len(s.Log) != 0 {
			t.Fatalf("%v: %v", m, s)
		}
		if !impl.SeqOk(m, s) {
			t.Fatalf("%v is not valid for %v", s, m)
		}
	}
}

func TestSequentialSimulatorOfInvalidModel(t *testing.T) {
	for _, m := range badModels() {
		for _, s := range []simulator{impl.SeqNew(m), impl.SeqAll(m)} {
			if !sameSim(s, simulator{}) {
				t.Errorf("%v: %v", m, s)
			}
		}
		for _, s := range []simulator{{}, someSim(), impl.SeqNew(someModel())} {
			next, did := impl.SeqStep(m, s)
			if impl.SeqOk(m, s) || did || !sameSim(next, simulator{}) {
				t.Errorf("a step of %v for %v: %v %v", s, m, next, did)
			}
		}
		for _, at := range []int{math.MinInt, 0, 10, math.MaxInt} {
			if log := impl.SeqUpto(m, at); len(log) != 0 {
				t.Errorf("%v up to %d: %v", m, at, log)
			}
		}
	}
}

// Promises 32 and 33: which simulators are valid.

// simNumber names a number in someSim, how to reach it, and its bounds.
type simNumber struct {
	name string
	of   func(*simulator) *int
	low  int
	high int
}

func simNumbers() []simNumber {
	return []simNumber{
		{"S", func(s *simulator) *int { return &s.Comps[0].S }, 0, 96},
		{"Seq", func(s *simulator) *int { return &s.Comps[1].Seq }, 0, 12},
		{"Count", func(s *simulator) *int { return &s.Comps[2].Count }, 0, math.MaxInt},
		{"T of the last pending", func(s *simulator) *int { return &s.Wait[4].T }, 11, 20},
		{"To of a pending", func(s *simulator) *int { return &s.Wait[4].To }, 0, 2},
		{"From of a pending", func(s *simulator) *int { return &s.Wait[4].From }, -1, 2},
		{"Seq of a pending", func(s *simulator) *int { return &s.Wait[4].Seq }, 0, 11},
		{"Kind of a pending", func(s *simulator) *int { return &s.Wait[4].Kind }, 0, 2},
		{"Data of a pending", func(s *simulator) *int { return &s.Wait[4].Data }, 0, 96},
		{"T of the first processed", func(s *simulator) *int { return &s.Log[0].Ev.T }, 0, 5},
		{"T of the last processed", func(s *simulator) *int { return &s.Log[2].Ev.T }, 6, 7},
		{"To of a processed", func(s *simulator) *int { return &s.Log[1].Ev.To }, 0, 2},
		{"From of a processed", func(s *simulator) *int { return &s.Log[1].Ev.From }, -1, 2},
		{"Seq of a processed", func(s *simulator) *int { return &s.Log[1].Ev.Seq }, 0, 11},
		{"Kind of a processed", func(s *simulator) *int { return &s.Log[1].Ev.Kind }, 0, 2},
		{"Data of a processed", func(s *simulator) *int { return &s.Log[1].Ev.Data }, 0, 96},
		{"the first recorded state", func(s *simulator) *int { return &s.Log[0].S }, 0, 96},
		{"the last recorded state", func(s *simulator) *int { return &s.Log[2].S }, 0, 96},
	}
}

func TestSeqOkBoundsOfEveryNumber(t *testing.T) {
	for _, f := range simNumbers() {
		for _, n := range []int{f.low, f.high} {
			s := someSim()
			*f.of(&s) = n
			if !impl.SeqOk(someModel(), s) {
				t.Errorf("%s %d is refused", f.name, n)
			}
		}
		// Past the greatest int is the least one.
		for _, n := range []int{math.MinInt, f.low - 1, f.high + 1} {
			checkSims(t, false, func(s *simulator) { *f.of(s) = n })
		}
	}
}

func TestSeqOkNumberOfComponentStates(t *testing.T) {
	checkSims(t, true, func(*simulator) {})
	checkSims(t, false,
		func(s *simulator) { s.Comps = nil },
		func(s *simulator) { s.Comps = s.Comps[:2] },
		func(s *simulator) { s.Comps = append(s.Comps, comp{}) },
		func(s *simulator) { s.Comps[2] = comp{Count: -1} },
		func(s *simulator) { *s = simulator{} })
	for many := 1; many <= 4; many++ {
		m := endless(many, 1)
		for n := range 6 {
			s := simulator{Comps: make([]comp, n), Wait: m.Starts}
			if want := n == many; impl.SeqOk(m, s) != want {
				t.Errorf("%d states of %d components: not %v", n, many, want)
			}
		}
	}
}

func TestSeqOkOrder(t *testing.T) {
	for i := range 4 {
		checkSims(t, false,
			func(s *simulator) { s.Wait[i], s.Wait[i+1] = s.Wait[i+1], s.Wait[i] },
			func(s *simulator) { s.Wait[i] = s.Wait[i+1] })
	}
	for i := range 2 {
		checkSims(t, false,
			func(s *simulator) { s.Log[i], s.Log[i+1] = s.Log[i+1], s.Log[i] },
			func(s *simulator) { s.Log[i] = s.Log[i+1] })
	}
}

func TestSeqOkPendingEventsAreGreater(t *testing.T) {
	base := event{T: 8, To: 0, From: -1, Data: 4}
	for _, f := range fields() {
		if f.name == "From" {
			continue
		}
		checkSims(t, f.name == "Data" || f.name == "T", func(s *simulator) { s.Log[2].Ev = with(base, f, *f.of(&base)-1) })
		checkSims(t, false, func(s *simulator) { s.Log[2].Ev = with(base, f, *f.of(&base)+1) })
	}
	checkSims(t, false,
		func(s *simulator) { s.Log[2].Ev = base },
		func(s *simulator) { s.Log = append(s.Log, record{Ev: s.Wait[2]}) },
		func(s *simulator) { s.Log = append(s.Log, record{Ev: s.Wait[4]}) },
		func(s *simulator) { s.Wait = append([]event{s.Log[0].Ev}, s.Wait...) },
		func(s *simulator) { s.Wait = []event{s.Log[2].Ev} },
		func(s *simulator) { s.Wait = []event{{T: 6, To: 2, From: -1}} })
	checkSims(t, true,
		func(s *simulator) { s.Wait = []event{{T: 7, To: 1, From: 2, Seq: 1}} },
		func(s *simulator) { s.Log = nil },
		func(s *simulator) { s.Wait = nil },
		func(s *simulator) { s.Wait, s.Log = nil, nil })
}

func TestSeqOkProcessedEventsAreNotBoundedByTheEnd(t *testing.T) {
	checkSims(t, true,
		func(s *simulator) { s.Wait, s.Log = nil, []record{{Ev: event{T: 21}}} },
		func(s *simulator) { s.Wait, s.Log = nil, []record{{Ev: event{T: 99}}} })
	checkSims(t, false,
		func(s *simulator) { s.Wait, s.Log = nil, []record{{Ev: event{T: 100}}} },
		func(s *simulator) { s.Wait, s.Log = nil, []record{{Ev: event{T: -1}}} },
		func(s *simulator) { s.Wait = []event{{T: 21}} },
		func(s *simulator) { s.Log = append(s.Log, record{Ev: event{T: 21}}) })
}

// Promise 32.

func TestSeqStepOfSomeSimulator(t *testing.T) {
	start := someSim()
	// At 8 component 0 processes a rule with two sends.
	wait := []event{
		start.Wait[1],
		start.Wait[2],
		{T: 10, To: 1, From: 0, Seq: 3, Kind: 1, Data: 44},
		start.Wait[3],
		{T: 17, To: 0, From: 0, Seq: 4, Kind: 2, Data: 32},
		start.Wait[4],
	}
	one := simulator{
		Comps: []comp{{S: 33, Seq: 5, Count: 10}, {S: 1, Seq: 12, Count: 4}, {S: 96}},
		Wait:  wait,
		Log:   append(someSim().Log, record{Ev: start.Wait[0], S: 33}),
	}
	// Component 1 has sent SeqMost, so that it computes, but sends nothing.
	two := simulator{
		Comps: []comp{{S: 33, Seq: 5, Count: 10}, {S: 2, Seq: 12, Count: 5}, {S: 96}},
		Wait:  wait[1:],
		Log:   append(slices.Clone(one.Log), record{Ev: start.Wait[1], S: 2}),
	}
	for _, pair := range [][2]simulator{{start, one}, {one, two}} {
		next, did := impl.SeqStep(someModel(), pair[0])
		if !did || !sameSim(next, pair[1]) {
			t.Fatalf("%v: %v %v, not %v", pair[0], next, did, pair[1])
		}
	}
}

func TestSeqStepProcessesTheFirstEvent(t *testing.T) {
	for _, m := range manyModels() {
		for _, s := range allSteps(t, m) {
			if len(s.Wait) > 0 {
				checkStep(t, m, s)
			}
		}
	}
}

// checkStep fails unless SeqStep is as defined and, where promised, as promised.
func checkStep(t *testing.T, m model, s simulator) {
	t.Helper()
	next, did := impl.SeqStep(m, s)
	if want := stepByDefinition(m, s); !did || !sameSim(next, want) {
		t.Fatalf("%v of %v: %v %v, not %v", s, m, next, did, want)
	}
	first := s.Wait[0]
	c, sent := impl.CmpDo(m, s.Comps[first.To], first)
	if len(next.Log) != len(s.Log)+1 || next.Log[len(s.Log)] != (record{Ev: first, S: c.S}) {
		t.Fatalf("%v of %v: the log is %v", s, m, next.Log)
	}
	for i := range s.Comps {
		if i != first.To && next.Comps[i] != s.Comps[i] {
			t.Fatalf("%v of %v: component %d is changed to %v", s, m, i, next.Comps[i])
		}
	}
	for _, e := range sent {
		if !slices.Contains(next.Wait, e) {
			t.Fatalf("%v of %v: %v is not pending in %v", s, m, e, next)
		}
	}
}

func TestSeqStepOrderAtOneTime(t *testing.T) {
	m := model{Rules: make([][]rule, 4), Until: 99}
	d := &draw{at: 3}
	for _, at := range []int{0, 50, 99} {
		wait := []event{}
		for len(wait) < 40 {
			e := event{T: at, To: d.below(4), From: d.between(-1, 3), Seq: d.below(2), Kind: d.below(3), Data: d.below(2)}
			if !slices.Contains(wait, e) {
				wait = impl.EvtPut(wait, e)
			}
		}
		s := simulator{Comps: make([]comp, 4), Wait: wait}
		for i, e := range wait {
			next, did := impl.SeqStep(m, s)
			if !did || !slices.Equal(next.Wait, wait[i+1:]) || len(next.Log) != i+1 || next.Log[i] != (record{Ev: e}) {
				t.Fatalf("%v: %v %v", s, next, did)
			}
			s = next
		}
	}
}

func TestSeqStepPutsSentEventsInOrder(t *testing.T) {
	m := model{Rules: make([][]rule, 3), Until: 30}
	m.Rules[1] = []rule{{A: 1, Sends: []send{{To: 2, Delay: 9, Mod: 1}, {To: 0, Delay: 4, Mod: 1}}}}
	for bits := range 1 << 8 {
		first := event{T: 5, To: 1, From: -1}
		s := simulator{Comps: make([]comp, 3), Wait: []event{first}}
		for i := range 8 {
			if bits>>i&1 == 1 {
				s.Wait = append(s.Wait, event{T: 7 + i, To: i % 3, From: 2, Seq: i})
			}
		}
		next, did := impl.SeqStep(m, s)
		want := impl.EvtPut(impl.EvtPut(s.Wait[1:], event{T: 14, To: 2, From: 1}), event{T: 9, To: 0, From: 1, Seq: 1})
		if !did || !slices.Equal(next.Wait, want) || !impl.SeqOk(m, next) {
			t.Fatalf("%v: %v %v", s, next, did)
		}
	}
}

func TestSeqStepAroundTheEnd(t *testing.T) {
	for until := 3; until <= 99; until++ {
		m := model{Rules: [][]rule{{{C: 5, Sends: []send{{Delay: 3, Mod: 1}}}}}, Until: until}
		for at := max(0, until-5); at <= until; at++ {
			s, did := impl.SeqStep(m, simulator{Comps: []comp{{}}, Wait: []event{{T: at}}})
			var want []event
			if at+3 <= until {
				want = []event{{T: at + 3, Data: 5}}
			}
			if !did || !slices.Equal(s.Wait, want) || s.Comps[0] != (comp{S: 5, Seq: 1, Count: 1}) {
				t.Fatalf("at %d of %d: %v %v", at, until, s, did)
			}
		}
		for _, at := range []int{-1, until + 1} {
			s, did := impl.SeqStep(m, simulator{Comps: []comp{{}}, Wait: []event{{T: at}}})
			if did || !sameSim(s, simulator{}) {
				t.Fatalf("at %d of %d: %v %v", at, until, s, did)
			}
		}
	}
}

func TestSeqStepOfEventThatIsPendingAlready(t *testing.T) {
	m := endless(1, 0)
	sent := event{T: 6, Seq: 2}
	s := simulator{Comps: []comp{{Seq: 2}}, Wait: []event{{T: 5, From: -1}, sent, {T: 7}}}
	next, did := impl.SeqStep(m, s)
	want := []event{sent, sent, {T: 6, Seq: 3, Data: 1}, {T: 7}}
	if !did || !slices.Equal(next.Wait, want) || impl.SeqOk(m, next) {
		t.Fatalf("%v %v", next, did)
	}
	if last, did := impl.SeqStep(m, next); did || !sameSim(last, simulator{}) {
		t.Fatalf("a step of an invalid simulator: %v %v", last, did)
	}
}

func TestSeqStepWithNothingPending(t *testing.T) {
	idle := someSim()
	idle.Wait = nil
	for _, s := range []simulator{idle, {Comps: idle.Comps}, {Comps: make([]comp, 3), Wait: []event{}, Log: []record{}}} {
		next, did := impl.SeqStep(someModel(), s)
		if did || !sameSim(next, s) {
			t.Errorf("%v: %v %v", s, next, did)
		}
	}
	for _, m := range manyModels() {
		all := impl.SeqAll(m)
		if next, did := impl.SeqStep(m, all); did || !sameSim(next, all) {
			t.Errorf("%v: %v %v", all, next, did)
		}
	}
}

// Promise 33.

func TestSimulatorStaysValid(t *testing.T) {
	for _, m := range manyModels() {
		list := allSteps(t, m)
		for i, s := range list {
			if !impl.SeqOk(m, s) || len(s.Log) != i {
				t.Fatalf("step %d of %v: %v", i, m, s)
			}
			if i > 0 && len(s.Wait) > 0 && !impl.EvtLess(s.Log[i-1].Ev, s.Wait[0]) {
				t.Fatalf("step %d of %v: %v is not less than %v", i, m, s.Log[i-1], s.Wait[0])
			}
		}
		if most := 12*len(m.Rules) + len(m.Starts); len(list)-1 > most {
			t.Fatalf("%v takes %d steps, more than %d", m, len(list)-1, most)
		}
	}
}

func TestSimulatorTakesAsManyStepsAsEventsAreSent(t *testing.T) {
	for many := 1; many <= 4; many++ {
		for starts := range 7 {
			m := endless(many, starts)
			want := 12*many + starts
			if starts == 0 {
				want = 0
			}
			if steps := len(allSteps(t, m)) - 1; steps != want || len(impl.SeqAll(m).Log) != want {
				t.Fatalf("%d components, %d external events: %d steps, not %d", many, starts, steps, want)
			}
		}
	}
}

// Promise 35.

// exampleModel is the one at the end of the document.
func exampleModel() model {
	return model{
		Rules: [][]rule{
			{{A: 1, C: 1, Sends: []send{{To: 1, Delay: 3, Mod: 1}}}},
			{{A: 1, C: 1, Sends: []send{{To: 0, Delay: 2, Mod: 1}}}},
		},
		Starts: []event{{From: -1}},
		Until:  10,
	}
}

func TestSeqAllOfTheExample(t *testing.T) {
	got := impl.SeqAll(exampleModel())
	want := simulator{
		Comps: []comp{{S: 3, Seq: 3, Count: 3}, {S: 2, Seq: 2, Count: 2}},
		Log: []record{
			{Ev: event{T: 0, To: 0, From: -1}, S: 1},
			{Ev: event{T: 3, To: 1, From: 0, Data: 1}, S: 1},
			{Ev: event{T: 5, To: 0, From: 1, Data: 1}, S: 2},
			{Ev: event{T: 8, To: 1, From: 0, Seq: 1, Data: 2}, S: 2},
			{Ev: event{T: 10, To: 0, From: 1, Seq: 1, Data: 2}, S: 3},
		},
	}
	if !sameSim(got, want) {
		t.Fatal(got)
	}
}

func TestSeqAllIsRepeatedSeqStep(t *testing.T) {
	for _, m := range manyModels() {
		byDefinition := impl.SeqNew(m)
		for len(byDefinition.Wait) > 0 {
			byDefinition = stepByDefinition(m, byDefinition)
		}
		list := allSteps(t, m)
		all := impl.SeqAll(m)
		if !sameSim(all, byDefinition) || !sameSim(all, list[len(list)-1]) || len(all.Wait) != 0 {
			t.Fatalf("%v: %v", m, all)
		}
	}
}

func TestSeqAllDoesNothingOnlyWithoutExternalEvents(t *testing.T) {
	for _, m := range manyModels() {
		all := impl.SeqAll(m)
		if (len(all.Log) == 0) != (len(m.Starts) == 0) || len(all.Comps) != len(m.Rules) {
			t.Fatalf("%v: %v", m, all)
		}
	}
}

func TestSeqAllEveryEventHasASender(t *testing.T) {
	for _, m := range manyModels() {
		all := impl.SeqAll(m)
		counts := make([]int, len(m.Rules))
		external := []event{}
		for i, r := range all.Log {
			counts[r.Ev.To]++
			if r.Ev.From == -1 {
				external = append(external, r.Ev)
				continue
			}
			sender := func(earlier record) bool { return earlier.Ev.To == r.Ev.From && earlier.Ev.T < r.Ev.T }
			if !slices.ContainsFunc(all.Log[:i], sender) {
				t.Fatalf("%v: nobody can have sent %v", m, r)
			}
		}
		if !slices.Equal(external, m.Starts) {
			t.Fatalf("%v: processed %v", m, external)
		}
		for i, c := range all.Comps {
			if c.Count != counts[i] {
				t.Fatalf("%v: component %d has received %d, but counts %d", m, i, counts[i], c.Count)
			}
		}
	}
}

func TestSeqAllEqualTimesOfDifferentSenders(t *testing.T) {
	relay := func(delay, kind int) []rule {
		return []rule{{C: 1, Sends: []send{{To: 3, Delay: delay, Kind: kind, Mod: 1}}}}
	}
	m := model{
		Rules:  [][]rule{relay(3, 2), relay(2, 1), relay(1, 0), {{Kind: 0, A: 2, C: 1}, {Kind: 1, A: 3, C: 1}, {Kind: 2, A: 5, C: 1}}},
		Starts: []event{{T: 1, To: 0, From: -1}, {T: 2, To: 1, From: -1}, {T: 3, To: 2, From: -1}, {T: 4, To: 3, From: -1, Seq: 9, Kind: 2}},
		Until:  4,
	}
	log := impl.SeqAll(m).Log
	want := []record{
		{Ev: event{T: 4, To: 3, From: -1, Seq: 9, Kind: 2}, S: 1},
		{Ev: event{T: 4, To: 3, From: 0, Kind: 2, Data: 1}, S: 6},
		{Ev: event{T: 4, To: 3, From: 1, Kind: 1, Data: 1}, S: 19},
		{Ev: event{T: 4, To: 3, From: 2, Kind: 0, Data: 1}, S: 39},
	}
	if len(log) != 7 || !slices.Equal(log[3:], want) {
		t.Fatal(log)
	}
}

// Promise 36.

func TestSeqUptoIsAPrefix(t *testing.T) {
	for _, m := range manyModels() {
		log := impl.SeqAll(m).Log
		before := 0
		for _, at := range append(timesAround(m), math.MinInt, math.MaxInt) {
			part := impl.SeqUpto(m, at)
			if len(part) > len(log) || !slices.Equal(part, log[:len(part)]) {
				t.Fatalf("%v up to %d: %v", m, at, part)
			}
			for i, r := range log {
				if (i < len(part)) != (r.Ev.T < at) {
					t.Fatalf("%v up to %d: %v", m, at, part)
				}
			}
			if at != math.MinInt && len(part) < before {
				t.Fatalf("%v up to %d: only %v", m, at, part)
			}
			before = len(part)
		}
	}
}

// timesAround are times before, during and after the simulation of a model, in ascending order.
func timesAround(m model) []int {
	list := []int{}
	for at := -2; at <= m.Until+2; at++ {
		list = append(list, at)
	}
	return list
}

func TestSeqUptoOfTheExample(t *testing.T) {
	for at, want := range map[int]int{-1: 0, 0: 0, 1: 1, 3: 1, 4: 2, 5: 2, 6: 3, 8: 3, 9: 4, 10: 4, 11: 5, 99: 5, 1000: 5} {
		if log := impl.SeqUpto(exampleModel(), at); len(log) != want {
			t.Errorf("up to %d: %v", at, log)
		}
	}
}

// Promise 37.

func TestEarlierEndYieldsAPrefix(t *testing.T) {
	for _, m := range manyModels() {
		log := impl.SeqAll(m).Log
		for until := range m.Until + 1 {
			short := model{Rules: m.Rules, Until: until}
			for _, e := range m.Starts {
				if e.T <= until {
					short.Starts = append(short.Starts, e)
				}
			}
			want := impl.SeqUpto(m, until+1)
			if got := impl.SeqAll(short).Log; !slices.Equal(got, want) || !slices.Equal(got, log[:len(got)]) {
				t.Fatalf("%v until %d: %v, not %v", m, until, got, want)
			}
		}
	}
}

func TestSequentialSimulatorOwnsItsMemory(t *testing.T) {
	idle := someSim()
	idle.Wait = nil
	bad := someSim()
	bad.Wait[0], bad.Wait[1] = bad.Wait[1], bad.Wait[0]
	for _, s := range []simulator{someSim(), idle, bad, {}, impl.SeqNew(someModel()), impl.SeqAll(someModel())} {
		for _, m := range append(badModels()[:4], someModel(), exampleModel()) {
			checkSimKept(t, m, s, func(m model, s simulator) simulator {
				next, _ := impl.SeqStep(m, s)
				return next
			})
			checkSimKept(t, m, s, func(m model, s simulator) simulator {
				impl.SeqOk(m, s)
				return simulator{}
			})
			checkSimKept(t, m, s, func(m model, _ simulator) simulator { return impl.SeqNew(m) })
			checkSimKept(t, m, s, func(m model, _ simulator) simulator { return impl.SeqAll(m) })
			checkSimKept(t, m, s, func(m model, _ simulator) simulator { return simulator{Log: impl.SeqUpto(m, 6)} })
		}
	}
}
