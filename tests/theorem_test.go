package tests

import (
	"slices"
	"testing"

	"loop.example/turnback/impl"
)

// Promise 1.

// logsOf are the records of the sequential simulator, for every component.
func logsOf(m model) [][]record {
	logs := make([][]record, len(m.Rules))
	for _, r := range impl.SeqAll(m).Log {
		logs[r.Ev.To] = append(logs[r.Ev.To], r)
	}
	return logs
}

// checkCommitted fails unless the committed records are those of the sequential simulator, as far as they go, and all before the bound can be committed.
func checkCommitted(t *testing.T, w world) {
	t.Helper()
	if logs := logsOf(w.Model); !grown(w, world{Logs: logs}) {
		t.Fatalf("%s\nnot a part of %v", brief(w), logs)
	}
	if got, want := impl.VueLog(impl.VueFree(w)), impl.SeqUpto(w.Model, w.Bound); !slices.Equal(got, want) {
		t.Fatalf("%v, not %v, are committed after VueFree of\n%s", got, want, brief(w))
	}
}

func TestCommittedEventsAreThoseOfTheSequentialSimulator(t *testing.T) {
	behind := 0
	manyWalks(179, 150, func(_ world, _ action, w world) {
		checkCommitted(t, w)
		if 0 < w.Bound && w.Bound <= w.Model.Until && len(impl.VueLog(w)) < len(impl.SeqUpto(w.Model, w.Bound)) {
			behind++
		}
	})
	if behind < 1000 {
		t.Fatalf("something was left to be committed %d times", behind)
	}
}

func TestCommittedEventsInCalmRounds(t *testing.T) {
	for i, m := range manyModels() {
		w := impl.WldNew(m, i%2 == 0)
		for range 30 {
			w = impl.WldCalm(w, 1)
			checkCommitted(t, w)
			// What can be committed is committed in every round.
			if !same(impl.VueFree(w), w) {
				t.Fatal(brief(w))
			}
		}
	}
}

// Promise 2.

// before is the part of a list with timestamps less than t.
func before(list []record, t int) []record {
	return slices.DeleteFunc(slices.Clone(list), func(r record) bool { return r.Ev.T >= t })
}

// checkBound fails if the bound decreases, exceeds what is left, or if anything before it changes.
func checkBound(t *testing.T, w, next world) {
	t.Helper()
	if next.Bound < w.Bound || next.Bound > impl.VueLeast(next) || next.Bound > leftByDefinition(next) {
		t.Fatalf("the bound leads from\n%s\nto\n%s", brief(w), brief(next))
	}
	for c := range w.Hosts {
		if !slices.Equal(before(processed(next, c), w.Bound), before(processed(w, c), w.Bound)) {
			t.Fatalf("host %d changes before the bound, from\n%s\nto\n%s", c, brief(w), brief(next))
		}
	}
}

func TestNothingBeforeTheBoundIsRolledBack(t *testing.T) {
	var rose, back int
	manyWalks(181, 150, func(w world, a action, next world) {
		checkBound(t, w, next)
		if next.Bound > w.Bound {
			rose++
		}
		for c, h := range next.Hosts {
			if a.Kind == impl.ActHear && w.Bound > 0 && len(h.Done) < len(w.Hosts[c].Done) {
				back++
			}
		}
	})
	if rose < 300 || back < 300 {
		t.Fatalf("the bound rose %d times, and after that %d times something was rolled back", rose, back)
	}
}

func TestBoundInCalmRounds(t *testing.T) {
	for i, m := range manyModels() {
		w := impl.WldNew(m, i%2 == 0)
		for range 40 {
			next := impl.WldCalm(w, 1)
			checkBound(t, w, next)
			w = next
		}
	}
}

// keeping is a simulation with lazy cancellation in which host 1 has nothing left but an item that it keeps: what sent the item was called off. Host 2 has processed the item already, at 4, and the only message has the timestamp 11.
func keeping(t *testing.T) world {
	t.Helper()
	m := model{
		Rules: [][]rule{
			{{A: 1, B: 1, Sends: []send{{To: 1, Delay: 1, Mod: 2, Rem: 1}, {To: 1, Delay: 9, Mod: 2}}}, {Kind: 2, A: 1, B: 1}},
			{{Sends: []send{{To: 2, Delay: 1, Kind: 2, Mod: 1}}}},
			{{Sends: []send{{To: 0, Delay: 1, Kind: 2, Plus: 1, Mod: 1}}}},
		},
		Starts: []event{{T: 0, To: 2, From: -1}, {T: 2, To: 0, From: -1, Data: 1}},
		Until:  20,
	}
	w := impl.WldRun(impl.WldNew(m, true), []action{doing(0), hearing(0), doing(1), hearing(0), doing(2), doing(2), hearing(0), doing(0), doing(0), hearing(1)})
	h := w.Hosts[1]
	if len(h.Keep) != 1 || len(h.Wait)+len(h.Done) > 0 || len(w.Hosts[2].Done) != 2 || len(w.Net) != 1 || w.Net[0].Msg.It.Ev.T != 11 {
		t.Fatal(brief(w))
	}
	return w
}

func TestKeptItemsHoldTheBound(t *testing.T) {
	w := keeping(t)
	checkSeen(t, w, 4, false)
	bounds := []int{}
	for _, a := range []action{hearing(0), beginning, visiting, visiting, visiting, freeing(2), doing(1), hearing(0), hearing(0), beginning, visiting, visiting, visiting, freeing(2)} {
		next := impl.WldStep(w, a)
		checkBound(t, w, next)
		checkCommitted(t, next)
		if impl.VueLeast(next) < impl.VueLeast(w) {
			t.Fatalf("%v leads from\n%s\nto\n%s", a, brief(w), brief(next))
		}
		if next.Bound > w.Bound {
			bounds = append(bounds, next.Bound)
		}
		w = next
	}
	if !slices.Equal(bounds, []int{4, 12}) {
		t.Errorf("bounds %v:\n%s", bounds, brief(w))
	}
	checkComplete(t, impl.WldCalm(keeping(t), 140))
}

// Promise 3.

// checkComplete fails unless everything is committed as by the sequential simulator, and every component has its state.
func checkComplete(t *testing.T, w world) {
	t.Helper()
	want := impl.SeqAll(w.Model)
	for c, h := range w.Hosts {
		if h.Now != want.Comps[c] {
			t.Fatalf("component %d is not %v:\n%s", c, want.Comps[c], brief(w))
		}
	}
	if !impl.VueOver(w) || !slices.Equal(impl.VueLog(w), want.Log) || impl.VueLeast(w) != w.Model.Until+1 {
		t.Fatalf("%s\nnot %v", brief(w), want.Log)
	}
}

// somewhere is a simulation after up to so many actions that are drawn.
func (d *draw) somewhere(m model, lazy bool, how manner, most int) world {
	w := impl.WldNew(m, lazy)
	d.walk(m, lazy, how, d.below(most), func(_ world, _ action, next world) { w = next })
	return w
}

func TestCalmExecutionCompletes(t *testing.T) {
	d := &draw{at: 191}
	for i, m := range manyModels() {
		for how := range manners {
			w := d.somewhere(m, (i+int(how))%2 == 0, how, 120)
			checkComplete(t, impl.WldCalm(w, 140))
		}
	}
}

func TestCalmExecutionOfNewSimulations(t *testing.T) {
	for _, m := range append(manyModels(), smallModels()...) {
		for _, lazy := range []bool{false, true} {
			w := impl.WldNew(m, lazy)
			if got := impl.WldCalm(w, 0); !same(got, w) || impl.VueOver(got) {
				t.Errorf("no rounds: %s", brief(got))
			}
			most := impl.WldCalm(w, 139)
			last := impl.WldCalm(w, 140)
			checkComplete(t, most)
			checkComplete(t, last)
			if !same(impl.WldCalm(most, 1), last) {
				t.Errorf("139 rounds and one are not 140:\n%s", brief(last))
			}
		}
	}
}

// An item and its anti-message are in the network, and are delivered in either order, or by the calm rounds.
func TestCalmExecutionAfterMessagesThatCross(t *testing.T) {
	for _, acts := range [][]action{
		nil,
		{hearing(0)},
		{hearing(1)},
		{hearing(1), hearing(0)},
		{hearing(1), doing(0), doing(1)},
		{hearing(0), doing(0), doing(1)},
		{hearing(0), doing(0), hearing(0)},
		{beginning, visiting, hearing(1), visiting, visiting, hearing(0)},
	} {
		w := impl.WldRun(crossing(t), acts)
		checkCommitted(t, w)
		checkComplete(t, impl.WldCalm(w, 140))
	}
}

func TestCompletedSimulationsGoOnCalmly(t *testing.T) {
	d := &draw{at: 193}
	for i, m := range manyModels() {
		w := finished(m, i%2 == 0)
		for range 30 {
			w = impl.WldStep(w, d.action(w, anyOrder))
			checkComplete(t, w)
		}
		for _, n := range []int{0, 1, 139, 140} {
			checkComplete(t, impl.WldCalm(w, n))
		}
	}
}

// Promise 51.

func TestVueLeastNeverDecreases(t *testing.T) {
	rose := 0
	manyWalks(197, 150, func(w world, a action, next world) {
		from, to := impl.VueLeast(w), impl.VueLeast(next)
		if to < from || leftByDefinition(next) < from {
			t.Fatalf("from %d to %d after %v:\n%s\n%s", from, to, a, brief(w), brief(next))
		}
		if to > from {
			rose++
		}
	})
	if rose < 500 {
		t.Fatalf("it rose %d times", rose)
	}
}

func TestVueLeastInCalmRounds(t *testing.T) {
	d := &draw{at: 199}
	for i, m := range manyModels() {
		w := d.somewhere(m, i%2 == 0, manner(i)%manners, 60)
		for range 30 {
			next := impl.WldCalm(w, d.below(3))
			if impl.VueLeast(next) < impl.VueLeast(w) || impl.VueLeast(impl.VueFree(w)) != impl.VueLeast(w) {
				t.Fatalf("from\n%s\nto\n%s", brief(w), brief(next))
			}
			w = next
		}
	}
}

// Promise 52.

// checkStrategies fails unless two simulations of a model have committed the same after calm rounds.
func checkStrategies(t *testing.T, aggressive, lazy world) {
	t.Helper()
	if aggressive.Lazy || !lazy.Lazy {
		t.Fatal("these are not the two strategies")
	}
	a, b := impl.WldCalm(aggressive, 140), impl.WldCalm(lazy, 140)
	if !same(a.Logs, b.Logs) || !slices.Equal(impl.VueLog(a), impl.VueLog(b)) || len(impl.VueLog(a)) != len(impl.SeqAll(a.Model).Log) {
		t.Fatalf("%s\n%s\nlead to\n%s\n%s", brief(aggressive), brief(lazy), brief(a), brief(b))
	}
}

func TestStrategyDoesNotMatterToTheResult(t *testing.T) {
	d := &draw{at: 211}
	differ := 0
	for i, m := range manyModels() {
		for range 3 {
			acts := d.journey(m, d.below(2) == 0, manner(i)%manners, d.below(120)).Acts
			aggressive, lazy := impl.WldRun(impl.WldNew(m, false), acts), impl.WldRun(impl.WldNew(m, true), acts)
			checkStrategies(t, aggressive, lazy)
			if !same(aggressive.Hosts, lazy.Hosts) {
				differ++
			}
			checkStrategies(t, d.somewhere(m, false, d.manner(), 120), d.somewhere(m, true, d.manner(), 120))
		}
		checkStrategies(t, impl.WldNew(m, false), impl.WldNew(m, true))
	}
	if differ < 50 {
		t.Fatalf("the strategies differ %d times", differ)
	}
}

func (d *draw) manner() manner {
	return manner(d.below(int(manners)))
}

// Promise 53.

func TestWhatIsBeforeVueLeastIsFinal(t *testing.T) {
	var final, open int
	check := func(w world) {
		t.Helper()
		least := impl.VueLeast(w)
		var list []record
		for c, log := range logsOf(w.Model) {
			got := before(processed(w, c), least)
			if !slices.Equal(got, before(log, least)) {
				t.Fatalf("%v, not %v, are processed before %d:\n%s", got, before(log, least), least, brief(w))
			}
			list = append(list, got...)
			open += len(processed(w, c)) - len(got)
		}
		if !slices.Equal(inRecordOrder(list), impl.SeqUpto(w.Model, least)) {
			t.Fatalf("%v are processed before %d:\n%s", list, least, brief(w))
		}
		final += len(list)
	}
	manyWalks(223, 150, func(_ world, _ action, w world) { check(w) })
	for i, m := range manyModels() {
		w := impl.WldNew(m, i%2 == 0)
		for range 20 {
			w = impl.WldCalm(w, 1)
			check(w)
		}
	}
	if final < 10000 || open < 10000 {
		t.Fatalf("%d records were final, %d were not", final, open)
	}
}
