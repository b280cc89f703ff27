package tests

import (
	"math"
	"slices"
	"testing"

	"loop.example/turnback/impl"
)

// checkUnknown fails unless the functions for a host return -1, false and zero values.
func checkUnknown(t *testing.T, c caution, at int) {
	t.Helper()
	if got := c.safe(at); got != -1 {
		t.Errorf("host %d has the safe time %d:\n%v", at, got, c)
	}
	if got := c.do(at); !same(got, handled{}) {
		t.Errorf("host %d processes:\n%v\nof\n%v", at, got, c)
	}
	if got := c.null(at); !same(got, cautious{}) {
		t.Errorf("host %d sends null messages:\n%v\nof\n%v", at, got, c)
	}
}

// checkBad fails unless a simulation is invalid for all functions and all hosts.
func checkBad(t *testing.T, name string, c caution) {
	t.Helper()
	if c.okByDefinition() {
		t.Fatalf("%s: this is valid:\n%v", name, c)
	}
	if c.ok() {
		t.Errorf("%s is accepted:\n%v", name, c)
	}
	for at := range 5 {
		checkUnknown(t, c, at)
	}
	for _, at := range noHosts(c.M) {
		checkUnknown(t, c, at)
	}
}

// checkSpoiled fails unless every one of these changes makes someCaution invalid.
func checkSpoiled(t *testing.T, name string, changes ...func(*cautious)) {
	t.Helper()
	for _, change := range changes {
		c := someCaution()
		change(&c.S)
		checkBad(t, name, c)
	}
}

// checkSound fails unless someCaution stays valid after every one of these changes.
func checkSound(t *testing.T, name string, changes ...func(*cautious)) {
	t.Helper()
	for i, change := range changes {
		c := someCaution()
		change(&c.S)
		if !c.okByDefinition() || !c.ok() {
			t.Errorf("%s: change %d is refused:\n%v", name, i, c)
		}
		checkAsDefined(t, c)
	}
}

// checkAsDefined fails unless all functions for all hosts are as the document describes them.
func checkAsDefined(t *testing.T, c caution) {
	t.Helper()
	if got := c.ok(); got != c.okByDefinition() {
		t.Fatalf("valid is %v:\n%v", got, c)
	}
	for at := -1; at <= len(c.M.Rules); at++ {
		if got, want := c.safe(at), c.safeByDefinition(at); got != want {
			t.Fatalf("the safe time of host %d is %d, not %d:\n%v", at, got, want, c)
		}
		if got, want := c.do(at), c.doByDefinition(at); !same(got, want) {
			t.Fatalf("after host %d processes:\n%v\nnot\n%v\nof\n%v", at, got, want, c)
		}
		if got, want := c.null(at), c.nullByDefinition(at); !same(got, want) {
			t.Fatalf("after null messages of host %d:\n%v\nnot\n%v\nof\n%v", at, got, want, c)
		}
	}
}

func TestConservativeSimulationIsAsDefined(t *testing.T) {
	checkAsDefined(t, someCaution())
	for _, c := range strangeCautions(227) {
		checkAsDefined(t, c)
	}
	manyTurns(229, func(_ caution, a turn, next caution) {
		if a.At == 0 {
			checkAsDefined(t, next)
		}
	})
}

// Promises 69 and 135.

func TestLookaheadIsAsDefined(t *testing.T) {
	for _, m := range cautionModels() {
		for from := -1; from <= len(m.Rules); from++ {
			for to := -1; to <= len(m.Rules); to++ {
				if got, want := impl.CmbLook(m, from, to), lookByDefinition(m, from, to); got != want {
					t.Fatalf("from %d to %d: %d, not %d: %v", from, to, got, want, m)
				}
			}
		}
	}
}

// checkLooks fails unless the lookaheads of a model are these; every row is for one sender.
func checkLooks(t *testing.T, m model, want [][]int) {
	t.Helper()
	for from, row := range want {
		for to, n := range row {
			if got := impl.CmbLook(m, from, to); got != n {
				t.Errorf("from %d to %d: %d, not %d: %v", from, to, got, n, m)
			}
		}
	}
}

func TestLookaheadOfSomeModels(t *testing.T) {
	checkLooks(t, exampleModel(), [][]int{{11, 3}, {2, 11}})
	checkLooks(t, someModel(), [][]int{{9, 2, 1}, {1, 21, 21}, {21, 21, 21}})
	checkLooks(t, hub(20), [][]int{{21, 2, 21, 7}, {21, 21, 21, 21}, {21, 21, 3, 21}, {21, 21, 21, 21}})
	checkLooks(t, hub(2), [][]int{{3, 2, 3, 3}, {3, 3, 3, 3}, {3, 3, 3, 3}, {3, 3, 3, 3}})
	checkLooks(t, hub(0), [][]int{{1, 1, 1, 1}, {1, 1, 1, 1}, {1, 1, 1, 1}, {1, 1, 1, 1}})
	checkLooks(t, plainModel(1, 0), [][]int{{1}})
	checkLooks(t, plainModel(2, 99), [][]int{{100, 100}, {100, 100}})
	checkLooks(t, endless(1, 0), [][]int{{1}})
}

// One of several sends to the same receiver has the least delay, wherever it stands.
func TestLookaheadOfSeveralSends(t *testing.T) {
	for least := range 6 {
		m := model{Rules: make([][]rule, 2), Until: 30}
		for kind := range 3 {
			sends := []send{{To: 1, Delay: 8, Mod: 1}, {To: 1, Delay: 8, Mod: 1}}
			if least/2 == kind {
				sends[least%2].Delay = 5
			}
			m.Rules[0] = append(m.Rules[0], rule{Kind: kind, Sends: sends})
		}
		m.Rules[1] = []rule{{Kind: 2, Sends: []send{{To: 0, Delay: 1, Mod: 9, Rem: 8}}}}
		checkLooks(t, m, [][]int{{31, 5}, {1, 31}})
	}
}

func TestLookaheadAroundTheEnd(t *testing.T) {
	for delay := 1; delay <= 9; delay++ {
		for until := range 12 {
			m := model{Rules: [][]rule{{{Sends: []send{{To: 1, Delay: delay, Mod: 1}}}}, nil}, Until: until}
			checkLooks(t, m, [][]int{{until + 1, min(delay, until+1)}, {until + 1, until + 1}})
		}
	}
}

func TestLookaheadOfInvalidModelsAndComponents(t *testing.T) {
	for _, m := range badModels() {
		for at := range 9 {
			if got := impl.CmbLook(m, at/3, at%3); got != -1 {
				t.Errorf("from %d to %d: %d: %v", at/3, at%3, got, m)
			}
		}
	}
	for _, m := range []model{someModel(), exampleModel(), endless(4, 1), endless(1, 1)} {
		for _, at := range noHosts(m) {
			if a, b, c := impl.CmbLook(m, at, 0), impl.CmbLook(m, 0, at), impl.CmbLook(m, at, at); a != -1 || b != -1 || c != -1 {
				t.Errorf("component %d: %d %d %d: %v", at, a, b, c, m)
			}
		}
	}
}

func TestSentEventsAreLaterByTheLookahead(t *testing.T) {
	seen := 0
	for _, m := range cautionModels() {
		for from := range m.Rules {
			for to := range m.Rules {
				if look := impl.CmbLook(m, from, to); look < 1 || look > m.Until+1 {
					t.Fatalf("from %d to %d: %d: %v", from, to, look, m)
				}
			}
			d := &draw{at: 233}
			for range 30 {
				e := event{T: d.below(m.Until + 1), To: from, From: -1, Kind: d.below(3), Data: d.below(97)}
				_, sent := impl.CmpDo(m, comp{S: d.below(97)}, e)
				for _, made := range sent {
					if seen++; made.T < e.T+impl.CmbLook(m, from, made.To) {
						t.Fatalf("%v sends %v too early: %v", e, made, m)
					}
				}
			}
		}
	}
	if seen < 5000 {
		t.Fatalf("%d events are sent", seen)
	}
}

func TestLookaheadIsAttained(t *testing.T) {
	attained := 0
	for _, m := range cautionModels() {
		for from, rules := range m.Rules {
			for to := range m.Rules {
				look := impl.CmbLook(m, from, to)
				exact := slices.ContainsFunc(rules, func(r rule) bool {
					return slices.ContainsFunc(r.Sends, func(x send) bool { return x.To == to && x.Delay == look })
				})
				if look <= m.Until && !exact {
					t.Fatalf("from %d to %d: no send has the delay %d: %v", from, to, look, m)
				}
				if look <= m.Until {
					attained++
				}
			}
		}
	}
	if attained < 500 {
		t.Fatalf("%d pairs have a lookahead", attained)
	}
}

// Promise 70.

func TestConservativeSimulationStarts(t *testing.T) {
	for _, m := range cautionModels() {
		c := fresh(m)
		if !same(c.S, freshByDefinition(m)) || !c.ok() {
			t.Fatal(c)
		}
		count := 0
		for at, h := range c.S.Hosts {
			if h.Now != (comp{}) || len(c.S.Logs[at]) > 0 || c.safe(at) != 0 {
				t.Fatalf("host %d:\n%v", at, c)
			}
			for _, e := range h.Wait {
				if e.To != at || !slices.Contains(m.Starts, e) {
					t.Fatalf("host %d:\n%v", at, c)
				}
			}
			count += len(h.Wait)
		}
		// Whatever is pending is at 0 or later, and safe is only what is earlier.
		if count != len(m.Starts) || c.ready() {
			t.Fatal(c)
		}
	}
}

func TestConservativeSimulationOfInvalidModels(t *testing.T) {
	for _, m := range badModels() {
		if got := impl.CmbNew(m); !same(got, cautious{}) {
			t.Errorf("%v is new for %v", got, m)
		}
		if got := impl.CmbAll(m); !same(got, cautious{}) {
			t.Errorf("%v is all for %v", got, m)
		}
		for _, s := range []cautious{{}, freshByDefinition(someModel()), someCaution().S} {
			checkBad(t, "the model", caution{m, s})
		}
	}
}

// A simulation of a model need not be one of another model.
func TestConservativeSimulationsOfOtherModels(t *testing.T) {
	short := someCaution()
	short.M.Until, short.M.Starts = 19, nil
	checkBad(t, "an end before a bound", short)
	for many := 1; many <= 4; many++ {
		for other := 1; other <= 4; other++ {
			c := caution{plainModel(many, 20), impl.CmbNew(plainModel(other, 20))}
			if many != other {
				checkBad(t, "another number of components", c)
			} else if !c.ok() {
				t.Error(c)
			}
		}
	}
}

// Promise 71: which simulations are valid.

// cautionNumber names a number in someCaution, how to reach it, and its bounds.
type cautionNumber struct {
	name string
	of   func(*cautious) *int
	low  int
	high int
}

func cautionNumbers() []cautionNumber {
	last := func(s *cautious) *event { return &s.Hosts[0].Wait[2] }
	first := func(s *cautious) *event { return &s.Logs[0][0].Ev }
	list := []cautionNumber{
		{"S", func(s *cautious) *int { return &s.Hosts[0].Now.S }, 0, 96},
		{"Seq", func(s *cautious) *int { return &s.Hosts[1].Now.Seq }, 0, 12},
		{"Count", func(s *cautious) *int { return &s.Hosts[2].Now.Count }, 0, math.MaxInt},
		{"T of a pending event", func(s *cautious) *int { return &last(s).T }, 8, 20},
		{"To of a pending event", func(s *cautious) *int { return &last(s).To }, 0, 0},
		{"From of a pending event", func(s *cautious) *int { return &last(s).From }, -1, 2},
		{"Seq of a pending event", func(s *cautious) *int { return &last(s).Seq }, 0, 11},
		{"Kind of a pending event", func(s *cautious) *int { return &last(s).Kind }, 0, 2},
		{"Data of a pending event", func(s *cautious) *int { return &last(s).Data }, 0, 96},
		{"To of the only pending event", func(s *cautious) *int { return &s.Hosts[1].Wait[0].To }, 1, 1},
		{"T of the first record", func(s *cautious) *int { return &first(s).T }, 0, 7},
		{"T of the last record", func(s *cautious) *int { return &s.Logs[0][1].Ev.T }, 0, 7},
		{"To of a record", func(s *cautious) *int { return &first(s).To }, 0, 0},
		{"From of a record", func(s *cautious) *int { return &first(s).From }, -1, 2},
		{"Seq of a record", func(s *cautious) *int { return &first(s).Seq }, 0, 11},
		{"Kind of a record", func(s *cautious) *int { return &first(s).Kind }, 0, 2},
		{"Data of a record", func(s *cautious) *int { return &first(s).Data }, 0, 96},
		{"To of the only record", func(s *cautious) *int { return &s.Logs[2][0].Ev.To }, 2, 2},
		{"the first recorded state", func(s *cautious) *int { return &s.Logs[0][0].S }, 0, 96},
		{"the last recorded state", func(s *cautious) *int { return &s.Logs[2][0].S }, 0, 96},
	}
	for at := range 9 {
		list = append(list, cautionNumber{"a bound", func(s *cautious) *int { return &s.Hosts[at/3].In[at%3] }, 0, 21})
	}
	return list
}

func TestCmbOkBoundsOfEveryNumber(t *testing.T) {
	checkSound(t, "nothing", func(*cautious) {})
	for _, f := range cautionNumbers() {
		for _, n := range []int{f.low, f.high} {
			checkSound(t, f.name, func(s *cautious) { *f.of(s) = n })
		}
		// Past the greatest int is the least one.
		for _, n := range []int{math.MinInt, f.low - 1, f.high + 1} {
			checkSpoiled(t, f.name, func(s *cautious) { *f.of(s) = n })
		}
	}
}

func TestCmbOkNumberOfParts(t *testing.T) {
	checkSpoiled(t, "no parts",
		func(s *cautious) { *s = cautious{} },
		func(s *cautious) { s.Hosts = nil },
		func(s *cautious) { s.Logs = nil })
	checkSpoiled(t, "a part more",
		func(s *cautious) { s.Hosts = append(s.Hosts, s.Hosts[2]) },
		func(s *cautious) { s.Hosts = append(s.Hosts, waiter{In: make([]int, 3)}) },
		func(s *cautious) { s.Logs = append(s.Logs, nil) },
		func(s *cautious) { s.Hosts, s.Logs = append(s.Hosts, waiter{In: make([]int, 3)}), append(s.Logs, nil) })
	checkSpoiled(t, "a list of records less", func(s *cautious) { s.Logs = s.Logs[:2] })
	for at := range 3 {
		checkSpoiled(t, "a host less", func(s *cautious) { s.Hosts = slices.Delete(s.Hosts, at, at+1) })
		checkSpoiled(t, "bounds",
			func(s *cautious) { s.Hosts[at].In = nil },
			func(s *cautious) { s.Hosts[at].In = s.Hosts[at].In[:2] },
			func(s *cautious) { s.Hosts[at].In = append(s.Hosts[at].In, 7) })
		checkSound(t, "nothing of a host", func(s *cautious) { s.Hosts[at].Wait, s.Logs[at] = nil, nil })
	}
}

func TestCmbOkPendingEvents(t *testing.T) {
	for i := range 2 {
		checkSpoiled(t, "pending events out of order", func(s *cautious) {
			list := s.Hosts[0].Wait
			list[i], list[i+1] = list[i+1], list[i]
		})
		checkSpoiled(t, "a pending event twice", func(s *cautious) { s.Hosts[0].Wait[i] = s.Hosts[0].Wait[i+1] })
	}
	for to := range 3 {
		checkSound(t, "the last pending event", func(s *cautious) { s.Hosts[to].Wait = []event{{T: 20, To: to, From: 2, Seq: 11}} })
		checkSpoiled(t, "a pending event",
			func(s *cautious) { s.Hosts[to].Wait = []event{{T: 21, To: to}} },
			func(s *cautious) { s.Hosts[to].Wait = []event{{T: 20, To: (to + 1) % 3}} },
			func(s *cautious) { s.Hosts[to].Wait = []event{{T: 20, To: to, From: 3}} },
			func(s *cautious) { s.Hosts[to].Wait = append(s.Hosts[to].Wait, mark) })
	}
}

func TestCmbOkRecords(t *testing.T) {
	checkSpoiled(t, "records out of order",
		func(s *cautious) { s.Logs[0][0], s.Logs[0][1] = s.Logs[0][1], s.Logs[0][0] },
		func(s *cautious) { s.Logs[0][0] = s.Logs[0][1] },
		func(s *cautious) { s.Logs[0] = append(s.Logs[0], s.Logs[0][1]) },
		func(s *cautious) { s.Logs[2] = append(s.Logs[2], record{Ev: s.Logs[2][0].Ev}) })
	for to := range 3 {
		// Only pending events are bounded by the end.
		checkSound(t, "the last record",
			func(s *cautious) { s.Hosts[to].Wait, s.Logs[to] = nil, []record{{Ev: event{T: 21, To: to}}} },
			func(s *cautious) { s.Hosts[to].Wait, s.Logs[to] = nil, []record{{Ev: event{T: 99, To: to}, S: 96}} })
		checkSpoiled(t, "a record",
			func(s *cautious) { s.Hosts[to].Wait, s.Logs[to] = nil, []record{{Ev: event{T: 100, To: to}}} },
			func(s *cautious) { s.Hosts[to].Wait, s.Logs[to] = nil, []record{{Ev: event{T: 1, To: (to + 1) % 3}}} },
			func(s *cautious) { s.Hosts[to].Wait, s.Logs[to] = nil, []record{{Ev: event{T: 1, To: to}, S: 97}} },
			func(s *cautious) { s.Hosts[to].Wait, s.Logs[to] = nil, []record{{Ev: event{T: 1, To: to}, S: -1}} })
	}
}

func TestCmbOkRecordsAreLessThanPendingEvents(t *testing.T) {
	base := event{T: 8, To: 0, From: 1, Seq: 4, Kind: 1, Data: 1}
	for _, f := range fields() {
		if f.name == "To" {
			continue
		}
		less, more := with(base, f, *f.of(&base)-1), with(base, f, *f.of(&base)+1)
		alone := func(pending, processed event) func(*cautious) {
			return func(s *cautious) {
				s.Hosts[0].Wait, s.Logs[0] = []event{pending}, []record{{Ev: processed}}
			}
		}
		checkSound(t, "less by "+f.name, alone(base, less), alone(more, base))
		checkSpoiled(t, "greater by "+f.name, alone(less, base), alone(base, more))
		checkSpoiled(t, "equal", alone(base, base), alone(less, less))
	}
	for i := range 3 {
		checkSpoiled(t, "a pending event was processed", func(s *cautious) {
			s.Logs[0] = append(s.Logs[0], record{Ev: s.Hosts[0].Wait[i]})
		})
	}
	// What another host has processed does not count.
	checkSound(t, "a record of another host", func(s *cautious) { s.Logs[2][0].Ev.T = 20 })
}

// spoil changes a part of a simulation, which most often makes it invalid.
func (d *draw) spoil(c *caution) {
	at := d.below(len(c.S.Hosts))
	h, log := &c.S.Hosts[at], &c.S.Logs[at]
	switch d.below(9) {
	case 0:
		c.S.Hosts = c.S.Hosts[:at]
	case 1:
		c.S.Logs = append(c.S.Logs, *log)[:d.between(0, 4)%(len(c.S.Logs)+2)]
	case 2:
		h.In = append(h.In, 0)[:d.between(0, 1)*(len(h.In)+1)]
	case 3:
		h.In[d.below(len(h.In))] = d.between(-1, c.M.Until+2)
	case 4:
		h.Now = comp{S: d.near(0, 96), Seq: d.near(0, 12), Count: d.near(0, 9)}
	case 5:
		h.Wait = append(h.Wait, d.nearby(c.M, at))
	case 6:
		*log = append(*log, record{Ev: d.nearby(c.M, at), S: d.near(0, 96)})
	case 7:
		h.Wait = append([]event{d.nearby(c.M, at)}, h.Wait...)
	case 8:
		*log = append([]record{{Ev: d.nearby(c.M, at)}}, *log...)
	}
}

// nearby is an event for a component, or, now and then, one that is not.
func (d *draw) nearby(m model, to int) event {
	if d.below(8) == 0 {
		to = d.between(-1, len(m.Rules))
	}
	return event{T: d.near(0, m.Until), To: to, From: d.near(-1, len(m.Rules)-1), Seq: d.near(0, 11), Kind: d.near(0, 2), Data: d.near(0, 96)}
}

func TestCmbOkAfterOneChange(t *testing.T) {
	d := &draw{at: 239}
	valid, invalid := 0, 0
	for range 3 {
		for _, c := range strangeCautions(d.at) {
			c.S = plain(c.S)
			d.spoil(&c)
			if checkAsDefined(t, c); c.ok() {
				valid++
			} else {
				invalid++
				checkBad(t, "a change", c)
			}
		}
	}
	if valid < 500 || invalid < 2000 {
		t.Fatalf("%d valid, %d invalid", valid, invalid)
	}
}

func TestHostsThatDoNotExist(t *testing.T) {
	for _, m := range cautionModels() {
		for _, c := range []caution{fresh(m), {m, impl.CmbAll(m)}} {
			for _, at := range noHosts(m) {
				checkUnknown(t, c, at)
			}
		}
	}
}

func TestValidityIsPreserved(t *testing.T) {
	check := func(c caution) {
		for at := range c.S.Hosts {
			next := c.with(c.null(at))
			if !next.ok() {
				t.Fatalf("after null messages of host %d:\n%v\nof\n%v", at, next, c)
			}
			next.S.Hosts = slices.Delete(next.S.Hosts, at, at+1)
			checkBad(t, "a host less", next)
		}
	}
	for _, c := range strangeCautions(241) {
		check(c)
	}
	manyTurns(251, func(_ caution, a turn, next caution) {
		if !next.ok() {
			t.Fatalf("after %v:\n%v", a, next)
		}
		if a.At == 0 {
			check(next)
		}
	})
}

// Promise 72.

func TestSafeTimeIsTheLeastBound(t *testing.T) {
	check := func(c caution) {
		for at, h := range c.S.Hosts {
			safe := c.safe(at)
			if safe != slices.Min(h.In) {
				t.Fatalf("host %d: %d:\n%v", at, safe, c)
			}
			for from := range c.S.Hosts {
				if next := c.with(c.null(from)); next.safe(at) < safe {
					t.Fatalf("host %d: %d after null messages of host %d:\n%v", at, next.safe(at), from, c)
				}
			}
		}
	}
	for _, c := range strangeCautions(257) {
		check(c)
	}
	manyTurns(263, func(_ caution, a turn, next caution) {
		if a.At == 0 {
			check(next)
		}
	})
}

func TestSafeTimeAtEveryPlace(t *testing.T) {
	for _, bounds := range [][]int{{0, 21, 21, 21}, {21, 0, 5, 5}, {9, 9, 8, 21}, {3, 3, 3, 2}, {21, 21, 21, 21}, {0, 0, 0, 0}} {
		for at := range 4 {
			c := fresh(plainModel(4, 20)).nullAll(21)
			c.S.Hosts[at].In = bounds
			for k := range 4 {
				want := 21
				if k == at {
					want = slices.Min(bounds)
				}
				if got := c.safe(k); got != want {
					t.Errorf("host %d: %d, not %d:\n%v", k, got, want, c)
				}
			}
		}
	}
}

// Promise 73.

func TestOnlySafeEventsAreProcessed(t *testing.T) {
	yes, no := 0, 0
	check := func(c caution, at int) {
		got := c.do(at)
		h := c.S.Hosts[at]
		safe := len(h.Wait) > 0 && h.Wait[0].T < c.safe(at)
		if got.Did != safe || !safe && !same(got.S, c.S) {
			t.Fatalf("host %d: %v:\n%v\nof\n%v", at, got.Did, got.S, c)
		}
		if no++; safe {
			yes, no = yes+1, no-1
			checkProcessed(t, c, at, got.S)
		}
	}
	for _, c := range strangeCautions(269) {
		for at := range c.S.Hosts {
			check(c, at)
		}
	}
	manyTurns(271, func(c caution, a turn, _ caution) { check(c, a.At) })
	if yes < 3000 || no < 3000 {
		t.Fatalf("%d are processed, %d are not", yes, no)
	}
}

// checkProcessed fails unless a host has processed its first pending event.
func checkProcessed(t *testing.T, c caution, at int, next cautious) {
	t.Helper()
	h, after := c.S.Hosts[at], next.Hosts[at]
	now, sent := impl.CmpDo(c.M, h.Now, h.Wait[0])
	log := append(slices.Clone(c.S.Logs[at]), record{Ev: h.Wait[0], S: now.S})
	if after.Now != now || !slices.Equal(next.Logs[at], log) {
		t.Fatalf("host %d:\n%v\nof\n%v", at, next, c)
	}
	for k, x := range next.Hosts {
		want := slices.Clone(c.S.Hosts[k].Wait)
		if k == at {
			want = want[1:]
		} else if x.Now != c.S.Hosts[k].Now || !slices.Equal(next.Logs[k], c.S.Logs[k]) {
			t.Fatalf("host %d is changed by host %d:\n%v\nof\n%v", k, at, next, c)
		}
		for _, made := range sent {
			if made.To == k {
				want = append(want, made)
			}
		}
		slices.SortFunc(want, inEventOrder)
		if !slices.Equal(x.Wait, want) || !slices.Equal(x.In, c.S.Hosts[k].In) {
			t.Fatalf("host %d:\n%v\nof\n%v", k, next, c)
		}
	}
}

// waiting is a simulation of passing(2, 3, 20) in which an event at this time is pending at host 0, with these bounds.
func waiting(at int, bounds ...int) caution {
	c := fresh(passing(2, 3, 20))
	c.S.Hosts[0] = waiter{Now: comp{S: 5, Count: 1}, Wait: []event{{T: at, To: 0, From: 1, Seq: 1, Data: 7}}, In: bounds}
	return c
}

func TestCmbDoAroundTheSafeTime(t *testing.T) {
	for at := range 21 {
		for _, bounds := range [][]int{{at, 21}, {21, at}, {at, at}, {0, 21}, {max(0, at-1), at + 1}} {
			if got := waiting(at, bounds...).do(0); got.Did || !same(got.S, waiting(at, bounds...).S) {
				t.Errorf("at %d with the bounds %v: %v", at, bounds, got)
			}
		}
		for _, bounds := range [][]int{{at + 1, at + 1}, {21, at + 1}, {at + 1, 21}, {21, 21}} {
			c := waiting(at, bounds...)
			got := c.do(0)
			want := plain(c.S)
			want.Hosts[0] = waiter{Now: comp{S: 12, Seq: 1, Count: 2}, In: bounds}
			want.Logs[0] = []record{{Ev: c.S.Hosts[0].Wait[0], S: 12}}
			if at+3 <= 20 {
				sent := event{T: at + 3, To: 1, From: 0, Data: 12}
				want.Hosts[1].Wait = impl.EvtPut(want.Hosts[1].Wait, sent)
			}
			if !same(got, handled{want, true}) {
				t.Errorf("at %d with the bounds %v: %v, not %v", at, bounds, got, want)
			}
		}
	}
}

func TestCmbDoWithNothingPending(t *testing.T) {
	for _, bound := range []int{0, 1, 20, 21} {
		c := fresh(plainModel(2, 20))
		c.S.Hosts[0].In = []int{bound, bound}
		c.S.Hosts[1].Wait = []event{{T: 0, To: 1, From: -1}}
		if got := c.do(0); got.Did || !same(got.S, c.S) {
			t.Errorf("bound %d: %v", bound, got)
		}
	}
}

// A component that has sent SeqMost events computes, but sends nothing.
func TestCmbDoAtSeqMost(t *testing.T) {
	for seq := 9; seq <= 12; seq++ {
		c := fresh(endless(2, 1)).nullAll(1)
		c.S.Hosts[0].Now.Seq = seq
		got := c.do(0)
		want := []event{{T: 1, To: 0, From: 0, Seq: seq}, {T: 1, To: 1, From: 0, Seq: seq + 1, Data: 1}}[:min(2, 12-seq)]
		if list := slices.Concat(got.S.Hosts[0].Wait, got.S.Hosts[1].Wait); !got.Did || !slices.Equal(list, want) {
			t.Errorf("%d are sent already: %v", seq, got)
		}
		if got.S.Hosts[0].Now != (comp{Seq: min(12, seq+2), Count: 1}) {
			t.Errorf("%d are sent already: %v", seq, got)
		}
	}
}

// Sent events go to their places among those that are pending.
func TestCmbDoPutsSentEventsInOrder(t *testing.T) {
	m := model{Rules: make([][]rule, 3), Until: 30}
	m.Rules[1] = []rule{{A: 1, Sends: []send{{To: 2, Delay: 9, Mod: 1}, {To: 2, Delay: 4, Mod: 1}}}}
	for bits := range 1 << 8 {
		c := fresh(m)
		c.S.Hosts[1] = waiter{Wait: []event{{T: 5, To: 1, From: -1}}, In: []int{6, 7, 8}}
		want := []event{{T: 9, To: 2, From: 1, Seq: 1}, {T: 14, To: 2, From: 1}}
		for i := range 8 {
			if bits>>i&1 == 1 {
				e := event{T: 7 + i, To: 2, From: i%3 - 1, Seq: i}
				c.S.Hosts[2].Wait = append(c.S.Hosts[2].Wait, e)
				want = impl.EvtPut(want, e)
			}
		}
		got := c.do(1)
		if !got.Did || !slices.Equal(got.S.Hosts[2].Wait, want) || !c.with(got.S).ok() {
			t.Fatalf("%v, not %v:\n%v", got, want, c)
		}
	}
}

// What is sent is pending then, even if the simulation becomes invalid by it.
func TestCmbDoOfEventThatIsPendingAlready(t *testing.T) {
	c := fresh(endless(1, 0))
	sent := event{T: 6, Seq: 2}
	c.S.Hosts[0] = waiter{Now: comp{Seq: 2}, Wait: []event{{T: 5, From: -1}, sent, {T: 7}}, In: []int{6}}
	got := c.do(0)
	want := []event{sent, sent, {T: 6, Seq: 3, Data: 1}, {T: 7}}
	if !got.Did || !slices.Equal(got.S.Hosts[0].Wait, want) || c.with(got.S).ok() {
		t.Fatal(got)
	}
	checkUnknown(t, c.with(got.S), 0)
}

// Promise 74.

func TestNullMessagesOnlyRaiseBounds(t *testing.T) {
	rose := 0
	check := func(c caution, from int) {
		got := c.null(from)
		back := plain(got)
		for at := range back.Hosts {
			if got.Hosts[at].In[from] < c.S.Hosts[at].In[from] {
				t.Fatalf("host %d lowers a bound of host %d:\n%v\nof\n%v", from, at, got, c)
			}
			if got.Hosts[at].In[from] > c.S.Hosts[at].In[from] {
				rose++
			}
			back.Hosts[at].In[from] = c.S.Hosts[at].In[from]
		}
		if !same(back, c.S) {
			t.Fatalf("host %d changes more than bounds for it:\n%v\nof\n%v", from, got, c)
		}
	}
	for _, c := range strangeCautions(277) {
		for from := range c.S.Hosts {
			check(c, from)
		}
	}
	manyTurns(281, func(c caution, a turn, _ caution) { check(c, a.At) })
	if rose < 5000 {
		t.Fatalf("%d bounds rose", rose)
	}
}

// checkBounds fails unless the bounds of all hosts are these.
func checkBounds(t *testing.T, name string, c caution, want ...[]int) {
	t.Helper()
	for at, h := range c.S.Hosts {
		if !slices.Equal(h.In, want[at]) {
			t.Errorf("%s: host %d has the bounds %v, not %v", name, at, h.In, want[at])
		}
	}
}

func TestNullMessagesOfTheExample(t *testing.T) {
	c := fresh(exampleModel())
	step := func(name string, next cautious, want ...[]int) {
		t.Helper()
		c = c.with(next)
		checkBounds(t, name, c, want...)
	}
	step("0 sends", c.null(0), []int{11, 0}, []int{3, 0})
	step("1 sends", c.null(1), []int{11, 2}, []int{3, 11})
	step("0 processes 0", c.do(0).S, []int{11, 2}, []int{3, 11})
	step("1 waits at 3", c.do(1).S, []int{11, 2}, []int{3, 11})
	step("0 sends again", c.null(0), []int{11, 2}, []int{5, 11})
	step("1 sends again", c.null(1), []int{11, 5}, []int{5, 11})
	step("1 processes 3", c.do(1).S, []int{11, 5}, []int{5, 11})
	step("1 sends behind it", c.null(1), []int{11, 7}, []int{5, 11})
	step("1 sends twice in a row", c.null(1), []int{11, 7}, []int{5, 11})
	step("0 sends with an event at 5", c.null(0), []int{11, 7}, []int{8, 11})
	if len(c.S.Logs[0]) != 1 || len(c.S.Logs[1]) != 1 || len(c.S.Hosts[0].Wait) != 1 {
		t.Fatal(c)
	}
}

// A component that sends to itself only learns from its own null messages that nothing comes earlier.
func TestNullMessagesToItself(t *testing.T) {
	m := model{Rules: [][]rule{{{A: 1, Sends: []send{{Delay: 4, Mod: 1}}}}}, Starts: []event{{T: 9, From: -1}}, Until: 15}
	c := fresh(m)
	for i, want := range []int{0, 4, 8, 12, 13, 13, 13} {
		if checkBounds(t, "its own", c, []int{want}); c.ready() != (i > 2) {
			t.Errorf("with %d null messages:\n%v", i, c)
		}
		c = c.with(c.null(0))
	}
	c = c.with(c.do(0).S)
	for _, want := range []int{13, 16, 16} {
		checkBounds(t, "with an event at 13", c, []int{want})
		c = c.with(c.do(0).S)
		c = c.with(c.null(0))
	}
}

// Without null messages of host 1 the bounds for the other two stop at what it might send.
func TestNullMessagesOfOneHostAlone(t *testing.T) {
	c := fresh(plainModel(3, 20))
	for range 3 {
		c = c.with(c.null(1))
		checkBounds(t, "of 1", c, []int{0, 21, 0}, []int{0, 21, 0}, []int{0, 21, 0})
	}
	c = fresh(passing(3, 2, 20))
	for range 3 {
		c = c.with(c.null(1))
		checkBounds(t, "of 1 with delay 2", c, []int{0, 21, 0}, []int{0, 21, 0}, []int{0, 2, 0})
	}
	for range 30 {
		c = c.with(c.null(0))
		c = c.with(c.null(2))
	}
	checkBounds(t, "of 0 and 2", c, []int{21, 21, 4}, []int{6, 21, 21}, []int{21, 2, 21})
}

func TestNullMessagesWithDelaysAroundTheEnd(t *testing.T) {
	for delay := 1; delay <= 9; delay++ {
		for until := range 12 {
			m := model{Rules: [][]rule{{{Sends: []send{{To: 1, Delay: delay, Mod: 1}}}}, nil}, Until: until}
			c := fresh(m)
			for from := range until + 2 {
				c.S.Hosts[0].In = []int{from, until + 1}
				next := c.with(c.null(0))
				checkBounds(t, "of 0", next, []int{until + 1, until + 1}, []int{min(until+1, from+delay), 0})
			}
		}
	}
}

func TestNullMessagesDoNotLowerBounds(t *testing.T) {
	c := fresh(exampleModel())
	c.S.Hosts[0].In, c.S.Hosts[1].In = []int{11, 9}, []int{10, 1}
	checkBounds(t, "of 0", c.with(c.null(0)), []int{11, 9}, []int{10, 1})
	checkBounds(t, "of 1", c.with(c.null(1)), []int{11, 9}, []int{10, 11})
}

// A pending event that is later than the safe time does not count, as an earlier one may still arrive.
func TestNullMessagesWithPendingEvents(t *testing.T) {
	for at := range 21 {
		for _, safe := range []int{0, 5, 10, 21} {
			c := waiting(at, 21, safe)
			want := min(min(at, safe)+3, 21)
			checkBounds(t, "of 0", c.with(c.null(0)), []int{21, safe}, []int{want, 0})
		}
	}
}
