package tests

import (
	"math"
	"slices"
	"testing"

	"loop.example/turnback/impl"
)

// finish is the result of WinAll.
type finish struct {
	S       simulator
	Windows int
}

func allWindows(m model) finish {
	s, n := impl.WinAll(m)
	return finish{s, n}
}

// checkWindow fails unless the next window, and what processing it leads to, are as the document describes them.
func checkWindow(t *testing.T, p pass) {
	t.Helper()
	if got, want := p.events(), p.eventsByDefinition(); !slices.Equal(got, want) {
		t.Fatalf("the window is %v, not %v:\n%v", got, want, p)
	}
	if got, want := p.step(), p.stepByDefinition(); !same(got, want) {
		t.Fatalf("%v\nnot\n%v\nof\n%v", got, want, p)
	}
}

func TestWindowsAreAsDefined(t *testing.T) {
	for _, p := range strangePasses(409) {
		checkWindow(t, p)
	}
	for _, m := range windowModels() {
		for _, p := range allPasses(t, m) {
			checkWindow(t, p)
		}
		// In between, a part of a window may be done already.
		for _, s := range allSteps(t, m) {
			checkWindow(t, pass{m, s})
		}
	}
}

// checkPassed fails unless the next window consists of so many pending events, and leads to this simulator.
func checkPassed(t *testing.T, p pass, many int, want simulator) simulator {
	t.Helper()
	if got := p.events(); !slices.Equal(got, p.S.Wait[:many]) {
		t.Errorf("the window is not the first %d events, but %v:\n%v", many, got, p)
	}
	if got := p.step(); !same(got, passed{want, many > 0}) {
		t.Fatalf("%v\nnot\n%v", got, want)
	}
	return want
}

func TestWindowsOfTheExample(t *testing.T) {
	m := exampleModel()
	s := impl.SeqNew(m)
	log := impl.SeqAll(m).Log
	for i, comps := range [][]comp{
		{{S: 1, Seq: 1, Count: 1}, {}},
		{{S: 1, Seq: 1, Count: 1}, {S: 1, Seq: 1, Count: 1}},
		{{S: 2, Seq: 2, Count: 2}, {S: 1, Seq: 1, Count: 1}},
		{{S: 2, Seq: 2, Count: 2}, {S: 2, Seq: 2, Count: 2}},
		{{S: 3, Seq: 3, Count: 3}, {S: 2, Seq: 2, Count: 2}},
	} {
		want := simulator{Comps: comps, Log: log[:i+1]}
		if i < 4 {
			want.Wait = []event{log[i+1].Ev}
		}
		s = checkPassed(t, pass{m, s}, 1, want)
	}
	checkPassed(t, pass{m, s}, 0, s)
	if got := impl.WinLook(m); got != 2 {
		t.Errorf("the least delay is %d", got)
	}
	if got := allWindows(m); !same(got, finish{s, 5}) {
		t.Error(got)
	}
}

// crowd is a model with a window of several components, which has several events of two of them; it starts at 2, and its end is exactly at the last external event.
func crowd() model {
	return model{
		Rules: [][]rule{
			{{A: 2, B: 1, C: 1, Sends: []send{{To: 1, Delay: 4, Mod: 1}, {To: 0, Delay: 6, Kind: 2, Plus: 5, Mod: 2}}}},
			{{A: 3, B: 1, Sends: []send{{To: 2, Delay: 9, Kind: 1, Mod: 1}}}, {Kind: 1, C: 50}},
			{{A: 1, C: 7}},
		},
		Starts: []event{
			{T: 2, To: 1, From: -1, Data: 4},
			{T: 2, To: 2, From: -1, Seq: 1},
			{T: 3, To: 0, From: -1, Data: 5},
			{T: 4, To: 1, From: -1, Kind: 1},
			{T: 5, To: 0, From: -1, Seq: 2, Data: 1},
			{T: 6, To: 0, From: -1, Data: 9},
		},
		Until: 12,
	}
}

func TestWindowsOfSeveralComponents(t *testing.T) {
	m := crowd()
	s := impl.SeqNew(m)
	s = checkPassed(t, pass{m, s}, 5, simulator{
		Comps: []comp{{S: 14, Seq: 4, Count: 2}, {S: 50, Seq: 1, Count: 2}, {S: 7, Count: 1}},
		Wait: []event{
			m.Starts[5],
			{T: 7, To: 1, From: 0, Data: 6},
			{T: 9, To: 0, From: 0, Seq: 1, Kind: 2, Data: 11},
			{T: 9, To: 1, From: 0, Seq: 2, Data: 14},
			{T: 11, To: 0, From: 0, Seq: 3, Kind: 2, Data: 19},
			{T: 11, To: 2, From: 1, Kind: 1, Data: 4},
		},
		Log: []record{
			{Ev: m.Starts[0], S: 4},
			{Ev: m.Starts[1], S: 7},
			{Ev: m.Starts[2], S: 6},
			{Ev: m.Starts[3], S: 50},
			{Ev: m.Starts[4], S: 14},
		},
	})
	// What component 1 sends at 7 and at 9 would come too late, but its numbers are used up.
	s = checkPassed(t, pass{m, s}, 4, simulator{
		Comps: []comp{{S: 38, Seq: 6, Count: 4}, {S: 94, Seq: 3, Count: 4}, {S: 7, Count: 1}},
		Wait: []event{
			{T: 10, To: 1, From: 0, Seq: 4, Data: 38},
			{T: 11, To: 0, From: 0, Seq: 3, Kind: 2, Data: 19},
			{T: 11, To: 2, From: 1, Kind: 1, Data: 4},
			{T: 12, To: 0, From: 0, Seq: 5, Kind: 2, Data: 43},
		},
		Log: slices.Concat(s.Log, []record{{Ev: s.Wait[0], S: 38}, {Ev: s.Wait[1], S: 59}, {Ev: s.Wait[2], S: 38}, {Ev: s.Wait[3], S: 94}}),
	})
	s = checkPassed(t, pass{m, s}, 4, simulator{
		Comps: []comp{{S: 38, Seq: 6, Count: 6}, {S: 29, Seq: 4, Count: 5}, {S: 7, Count: 2}},
		Log:   slices.Concat(s.Log, []record{{Ev: s.Wait[0], S: 29}, {Ev: s.Wait[1], S: 38}, {Ev: s.Wait[2], S: 7}, {Ev: s.Wait[3], S: 38}}),
	})
	checkPassed(t, pass{m, s}, 0, s)
	if got := allWindows(m); !same(got, finish{s, 3}) {
		t.Error(got)
	}
}

// Promise 76.

func TestLeastDelayIsAsDefined(t *testing.T) {
	for _, m := range windowModels() {
		least := math.MaxInt
		for from := range m.Rules {
			for to := range m.Rules {
				least = min(least, impl.CmbLook(m, from, to))
			}
		}
		if got := impl.WinLook(m); got != least || got != widthByDefinition(m) || got < 1 {
			t.Fatalf("the least delay is %d, that of all pairs %d: %v", got, least, m)
		}
	}
}

func TestLeastDelayOfSomeModels(t *testing.T) {
	for i, test := range []struct {
		m    model
		want int
	}{
		{exampleModel(), 2},
		{someModel(), 1},
		{crowd(), 4},
		{hub(20), 2},
		{hub(2), 2},
		{hub(1), 2},
		{hub(0), 1},
		{endless(4, 0), 1},
		{passing(1, 9, 99), 9},
		{passing(4, 9, 8), 9},
		{passing(4, 9, 7), 8},
		{plainModel(1, 0), 1},
		{plainModel(4, 99), 100},
		{model{Rules: [][]rule{{{A: 1}, {Kind: 1, B: 1}}, nil}, Until: 30}, 31},
	} {
		if got := impl.WinLook(test.m); got != test.want {
			t.Errorf("model %d: %d, not %d", i, got, test.want)
		}
	}
}

// The one send with the least delay may be any send of any rule of any component, and to any one, even if its condition is seldom true.
func TestLeastDelayOfEverySend(t *testing.T) {
	for many := 1; many <= 4; many++ {
		for at := range many * 6 {
			m := model{Rules: make([][]rule, many), Until: 30}
			for i := range many * 6 {
				from, kind := i/6, i/2%3
				x := send{To: i % many, Delay: 8, Mod: 1}
				if i == at {
					x.Delay, x.Mod, x.Rem = 5, 9, 8
				}
				if i%2 == 0 {
					m.Rules[from] = append(m.Rules[from], rule{Kind: kind})
				}
				m.Rules[from][kind].Sends = append(m.Rules[from][kind].Sends, x)
			}
			if got := impl.WinLook(m); got != 5 {
				t.Fatalf("%d: %v", got, m)
			}
		}
	}
}

func TestLeastDelayAroundTheEnd(t *testing.T) {
	for delay := 1; delay <= 9; delay++ {
		for until := range 100 {
			m := passing(1+until%4, delay, until)
			if got := impl.WinLook(m); got != min(delay, until+1) {
				t.Errorf("delay %d until %d: %d", delay, until, got)
			}
		}
	}
}

// Promise 77.

func TestWindowIsAPrefix(t *testing.T) {
	sent, exact := 0, 0
	check := func(p pass) {
		window := p.events()
		if many := len(window); many > len(p.S.Wait) || !slices.Equal(window, p.S.Wait[:many]) {
			t.Fatalf("the window is %v:\n%v", window, p)
		}
		if (len(window) == 0) != (len(p.S.Wait) == 0) {
			t.Fatalf("the window has %d events:\n%v", len(window), p)
		}
		for _, e := range window {
			for seq := range 13 {
				c := comp{S: (p.S.Comps[e.To].S + 7*seq) % 97, Seq: seq}
				_, list := impl.CmpDo(p.M, c, e)
				for _, made := range list {
					if sent++; made.T < p.end() || made.T <= window[len(window)-1].T {
						t.Fatalf("%v sends %v within the window %v:\n%v", e, made, window, p)
					}
					if made.T == p.end() {
						exact++
					}
				}
			}
		}
	}
	for _, p := range strangePasses(419) {
		check(p)
	}
	for _, m := range windowModels() {
		for _, p := range allPasses(t, m) {
			check(p)
		}
	}
	if sent < 30000 || exact < 3000 {
		t.Fatalf("%d events are sent, %d of them for the end of the window", sent, exact)
	}
}

// A pending event at the end of the window is not in it, one that is one time unit earlier is.
func TestWindowEndsBeforeTheLeastDelay(t *testing.T) {
	for delay := 1; delay <= 9; delay++ {
		for gap := range 12 {
			for _, first := range []int{0, 40, 99 - gap} {
				m := model{Rules: [][]rule{nil, {{Kind: 2, Sends: []send{{To: 0, Delay: delay, Mod: 1}}}}}, Until: 99}
				wait := []event{{T: first, To: 1, From: -1}, {T: first + gap, To: 1, From: -1, Seq: 1}}
				want := 1
				if gap < delay {
					want = 2
				}
				p := pass{m, simulator{Comps: make([]comp, 2), Wait: wait}}
				if got := p.events(); len(got) != want {
					t.Errorf("a delay of %d and a gap of %d: %v", delay, gap, got)
				}
				checkWindow(t, p)
			}
		}
	}
}

func TestWindowOfOneTimestamp(t *testing.T) {
	m := endless(4, 0)
	var wait []event
	for i := range 16 {
		wait = append(wait, event{T: 30, To: i / 4, From: i%4 - 1, Seq: 11 - i%3})
	}
	wait = append(wait, event{T: 31, To: 0, From: -1}, event{T: 31, To: 3, From: 2, Seq: 1})
	p := pass{m, simulator{Comps: []comp{{Seq: 12}, {Seq: 11}, {Seq: 4}, {}}, Wait: wait}}
	if got := p.events(); !slices.Equal(got, wait[:16]) {
		t.Fatal(got)
	}
	checkWindow(t, p)
	got := p.step().S
	if len(got.Wait) != 2+0+1+8+8 || got.Comps[0].Seq != 12 || got.Comps[3].Seq != 8 {
		t.Fatal(got)
	}
}

// Without sends all pending events are in the window, from 0 to the end.
func TestWindowWithoutSends(t *testing.T) {
	for _, until := range []int{0, 1, 98, 99} {
		m := plainModel(4, until)
		m.Rules[2] = []rule{{A: 5, C: 3}}
		wait := []event{{T: 0, To: 2, From: -1}}
		if until > 0 {
			wait = append(wait, event{T: until, To: 0, From: 3}, event{T: until, To: 2, From: 3})
		}
		p := pass{m, simulator{Comps: make([]comp, 4), Wait: wait}}
		if got := p.step(); !got.Did || len(p.events()) != len(wait) || len(got.S.Wait) > 0 || len(got.S.Log) != len(wait) {
			t.Fatalf("%v of\n%v", got, p)
		}
		checkWindow(t, p)
	}
}

// Promise 7.

// inSteps is a simulator after SeqStep for every event of the window; false, if it does not stay valid.
func (p pass) inSteps() (passed, bool) {
	want := passed{S: p.S}
	for range p.events() {
		next, did := impl.SeqStep(p.M, want.S)
		if !did {
			return passed{}, false
		}
		want = passed{next, true}
	}
	return want, impl.SeqOk(p.M, want.S)
}

func TestWindowIsProcessedComponentByComponent(t *testing.T) {
	list := strangePasses(421)
	valid := 0
	for _, p := range list {
		want, ok := p.inSteps()
		if !ok {
			continue
		}
		if valid++; !same(p.step(), want) {
			t.Fatalf("%v\nnot\n%v\nof\n%v", p.step(), want, p)
		}
	}
	if valid < len(list)*9/10 {
		t.Fatalf("only %d of %d simulators stay valid", valid, len(list))
	}
}

func TestSimulatorStaysValidWindowByWindow(t *testing.T) {
	for _, m := range windowModels() {
		for _, p := range allPasses(t, m) {
			want, ok := p.inSteps()
			if !ok || !p.ok() {
				t.Fatalf("invalid:\n%v", p)
			}
			if got := p.step(); !same(got, want) {
				t.Fatalf("%v\nnot\n%v\nof\n%v", got, want, p)
			}
		}
	}
}

// An event that is sent may be pending already, if the simulator has not come about from SeqNew. The window is processed to its end all the same.
func TestWindowOfEventThatIsPendingAlready(t *testing.T) {
	m := passing(2, 3, 20)
	twice := event{T: 8, To: 1, From: 0, Seq: 2, Data: 5}
	wait := []event{{T: 5, To: 0, From: -1, Data: 5}, {T: 5, To: 1, From: -1, Data: 1}, {T: 7, To: 0, From: -1, Data: 2}, twice}
	p := pass{m, simulator{Comps: []comp{{Seq: 2}, {}}, Wait: wait}}
	if _, ok := p.inSteps(); ok || !p.ok() {
		t.Fatal(p)
	}
	want := simulator{
		Comps: []comp{{S: 7, Seq: 4, Count: 2}, {S: 2, Seq: 1, Count: 1}},
		Wait:  []event{{T: 8, To: 0, From: 1, Data: 2}, twice, twice, {T: 10, To: 1, From: 0, Seq: 3, Data: 7}},
		Log:   []record{{Ev: wait[0], S: 5}, {Ev: wait[1], S: 2}, {Ev: wait[2], S: 7}},
	}
	if got := p.step(); !same(got, passed{want, true}) {
		t.Fatal(got)
	}
	if got := p.with(want).step(); !same(got, passed{}) || p.with(want).events() != nil {
		t.Fatal(got)
	}
}

func TestWindowWithNothingPending(t *testing.T) {
	idle := someSim()
	idle.Wait = nil
	list := []pass{{someModel(), idle}, {someModel(), simulator{Comps: idle.Comps}}, {someModel(), simulator{Comps: idle.Comps, Wait: []event{}, Log: []record{}}}}
	for _, m := range windowModels() {
		list = append(list, pass{m, impl.SeqAll(m)})
	}
	for _, p := range list {
		if got := p.events(); got != nil {
			t.Errorf("the window is %v:\n%v", got, p)
		}
		if got := p.step(); !same(got, passed{p.S, false}) {
			t.Errorf("%v of\n%v", got, p)
		}
	}
}

// Promise 8.

func TestWindowBasedAndSequentialSimulationAgree(t *testing.T) {
	fewer, unit, whole := 0, 0, 0
	for _, m := range windowModels() {
		got, all := allWindows(m), impl.SeqAll(m)
		if !same(got.S, all) || got.Windows > len(all.Log) || got.Windows > m.Until+1 {
			t.Fatalf("%v, not %v: %v", got, all, m)
		}
		list := allPasses(t, m)
		if last := list[len(list)-1]; got.Windows != len(list)-1 || !same(last.S, got.S) {
			t.Fatalf("%v, but %d times WinStep lead to\n%v", got, len(list)-1, last)
		}
		if got.Windows > 0 && got.Windows < len(all.Log) {
			fewer++
		}
		if got.Windows > 1 && got.Windows == len(all.Log) {
			unit++
		}
		if got.Windows > 1 && got.Windows == m.Until+1 {
			whole++
		}
	}
	if fewer < 200 || unit < 10 || whole < 10 {
		t.Fatalf("fewer windows than events in %d models, one per event in %d, one per time unit in %d", fewer, unit, whole)
	}
}

// A single event that is passed on needs a window whenever it arrives, until the end or until all components have sent SeqMost.
func TestWindowsOfASingleEvent(t *testing.T) {
	for many := 1; many <= 4; many++ {
		for until := range 100 {
			m := passing(many, 1, until)
			m.Starts = []event{{To: many - 1, From: -1}}
			if got := allWindows(m); got.Windows != 1+min(until, 12*many) || len(got.S.Log) != got.Windows {
				t.Fatalf("%d windows of %v", got.Windows, m)
			}
		}
	}
}

// With a delay of 1 there is a window for every time at which something happens.
func TestAsManyWindowsAsTimes(t *testing.T) {
	for many := 1; many <= 4; many++ {
		for until := range 100 {
			m := passing(many, 1, until)
			m.Starts = nil
			for i := range 6 {
				m.Starts = append(m.Starts, event{T: until * i / 6, To: i % many, From: -1, Seq: i})
			}
			slices.SortFunc(m.Starts, inEventOrder)
			times := map[int]bool{}
			for _, r := range impl.SeqAll(m).Log {
				times[r.Ev.T] = true
			}
			if got := allWindows(m); got.Windows != len(times) {
				t.Fatalf("%d windows for %d times: %v", got.Windows, len(times), m)
			}
		}
	}
}

func TestWindowsWithoutExternalEvents(t *testing.T) {
	for _, m := range windowModels() {
		none := m
		none.Starts = nil
		if got := allWindows(none); !same(got, finish{impl.SeqNew(none), 0}) {
			t.Fatalf("%v of %v", got, none)
		}
		if got := allWindows(m); (got.Windows == 0) != (len(m.Starts) == 0) {
			t.Fatalf("%v of %v", got, m)
		}
	}
}

// Promise 148.

func TestOneWindowWithoutEarlySends(t *testing.T) {
	one := 0
	for _, m := range windowModels() {
		got := allWindows(m).Windows
		if impl.WinLook(m) > m.Until && got != min(1, len(m.Starts)) {
			t.Fatalf("%d windows of %v", got, m)
		}
		if impl.WinLook(m) > m.Until {
			one += got
		}
	}
	if one < 60 {
		t.Fatalf("one window in %d models", one)
	}
}

// An event that is sent exactly for the end needs a second window, one that is sent for later is never pending.
func TestWindowsWithDelaysAroundTheEnd(t *testing.T) {
	for delay := 1; delay <= 9; delay++ {
		for many := 1; many <= 4; many++ {
			for until, want := range map[int]int{delay - 1: 1, delay: 2, 2*delay - 1: 2, 2 * delay: 3} {
				m := passing(many, delay, until)
				m.Starts = []event{{To: 0, From: -1}}
				if until > 0 {
					m.Starts = append(m.Starts, event{T: until, To: 0, From: -1, Seq: 1})
				}
				if got := allWindows(m).Windows; got != want {
					t.Errorf("%d components, a delay of %d, until %d: %d windows, not %d", many, delay, until, got, want)
				}
			}
		}
	}
}

// Invalid arguments.

// checkNoWindow fails unless a simulator is invalid, and has neither a window nor a next one.
func checkNoWindow(t *testing.T, name string, p pass) {
	t.Helper()
	if p.ok() {
		t.Fatalf("%s: this is valid:\n%v", name, p)
	}
	if got := p.events(); got != nil {
		t.Errorf("%s: the window is %v:\n%v", name, got, p)
	}
	if got := p.step(); !same(got, passed{}) {
		t.Errorf("%s: %v of\n%v", name, got, p)
	}
}

func TestWindowsOfInvalidModels(t *testing.T) {
	for _, m := range badModels() {
		if got := impl.WinLook(m); got != -1 {
			t.Errorf("the least delay is %d: %v", got, m)
		}
		if got := allWindows(m); !same(got, finish{}) {
			t.Errorf("%v: %v", got, m)
		}
		for _, s := range []simulator{{}, someSim(), impl.SeqNew(someModel()), {Comps: make([]comp, len(m.Rules)), Wait: m.Starts}} {
			checkNoWindow(t, "the model", pass{m, s})
		}
	}
}

func TestWindowsOfInvalidSimulators(t *testing.T) {
	spoil := func(name string, change func(*simulator)) {
		s := someSim()
		change(&s)
		checkNoWindow(t, name, pass{someModel(), s})
	}
	for _, f := range simNumbers() {
		for _, n := range []int{math.MinInt, f.low - 1, f.high + 1} {
			spoil(f.name, func(s *simulator) { *f.of(s) = n })
		}
	}
	for i := range 4 {
		spoil("pending events", func(s *simulator) { s.Wait[i], s.Wait[i+1] = s.Wait[i+1], s.Wait[i] })
		spoil("a pending event twice", func(s *simulator) { s.Wait[i] = s.Wait[i+1] })
	}
	for i := range 2 {
		spoil("records", func(s *simulator) { s.Log[i], s.Log[i+1] = s.Log[i+1], s.Log[i] })
		spoil("a record twice", func(s *simulator) { s.Log[i] = s.Log[i+1] })
	}
	spoil("nothing", func(s *simulator) { *s = simulator{} })
	spoil("no components", func(s *simulator) { s.Comps = nil })
	spoil("a component less", func(s *simulator) { s.Comps = s.Comps[:2] })
	spoil("a component more", func(s *simulator) { s.Comps = append(s.Comps, comp{}) })
	spoil("a pending event that is processed", func(s *simulator) { s.Log = append(s.Log, record{Ev: s.Wait[0]}) })
	spoil("a processed event that is greater", func(s *simulator) { s.Log = append(s.Log, record{Ev: s.Wait[1]}) })
	spoil("a wrong state with nothing pending", func(s *simulator) { s.Wait, s.Comps[0].S = nil, -1 })
}

// A simulator of a model need not be one of another model.
func TestWindowsOfOtherModels(t *testing.T) {
	short := someModel()
	short.Until, short.Starts = 19, nil
	checkNoWindow(t, "an end before a pending event", pass{short, someSim()})
	for many := 1; many <= 4; many++ {
		for other := 1; other <= 4; other++ {
			p := pass{passing(many, 2, 20), impl.SeqNew(passing(other, 2, 20))}
			if many != other {
				checkNoWindow(t, "another number of components", p)
			} else {
				checkWindow(t, p)
			}
		}
	}
}

// Memory.

func TestWindowsOwnTheirMemory(t *testing.T) {
	idle, bad := someSim(), someSim()
	idle.Wait = nil
	bad.Wait[1] = bad.Wait[0]
	list := []pass{{}, {M: someModel()}, {someModel(), someSim()}, {someModel(), idle}, {someModel(), bad}, {badModels()[3], someSim()}}
	for i, p := range strangePasses(431) {
		if i%5 == 0 {
			list = append(list, p)
		}
	}
	for i, m := range windowModels() {
		if i%5 == 0 {
			list = append(list, allPasses(t, m)...)
		}
	}
	for _, p := range list {
		checkOwned(t, "WinLook", p.M, impl.WinLook)
		checkOwned(t, "WinEvents", p, pass.events)
		checkOwned(t, "WinStep", p, pass.step)
		checkOwned(t, "WinAll", p.M, allWindows)
	}
}
