package tests

import (
	"math"
	"slices"
	"testing"

	"loop.example/turnback/impl"
)

// view is what the functions of chapter 7 tell of a simulation.
type view struct {
	Log   []record
	Freed world
	Least int
	Over  bool
}

// unseen is the view of an invalid simulation.
var unseen = view{Least: -1}

func viewOf(w world) view {
	return view{impl.VueLog(w), impl.VueFree(w), impl.VueLeast(w), impl.VueOver(w)}
}

// viewByDefinition is a view as the document describes it.
func viewByDefinition(w world) view {
	if !worldByDefinition(w) {
		return unseen
	}
	return view{
		Log:   inRecordOrder(slices.Concat(w.Logs...)),
		Freed: runByDefinition(w, freeingAll(w)),
		Least: leftByDefinition(w),
		Over:  w.Bound == w.Model.Until+1 && len(w.Net) == 0 && holds(w) == 0,
	}
}

// inRecordOrder sorts records by their events.
func inRecordOrder(list []record) []record {
	slices.SortFunc(list, func(a, b record) int { return itemInOrder(numbered(a.Ev, 0), numbered(b.Ev, 0)) })
	return list
}

// freeingAll are the actions that VueFree consists of.
func freeingAll(w world) []action {
	var list []action
	for c := range w.Hosts {
		list = append(list, freeing(c))
	}
	return list
}

// leftByDefinition is the least timestamp of whatever may still be processed or cancelled, and of all messages.
func leftByDefinition(w world) int {
	least := w.Model.Until + 1
	for _, h := range w.Hosts {
		least = min(least, leastByDefinition(w.Model, h))
	}
	for _, x := range w.Net {
		least = min(least, x.Msg.It.Ev.T)
	}
	return least
}

// holds is how much all hosts have that is not committed.
func holds(w world) int {
	n := 0
	for _, h := range w.Hosts {
		n += len(h.Done) + len(h.Wait) + len(h.Anti) + len(h.Keep)
	}
	return n
}

// checkView fails unless all views of a simulation, valid or not, are as the document describes them.
func checkView(t *testing.T, w world) {
	t.Helper()
	if got, want := viewOf(w), viewByDefinition(w); !same(got, want) {
		t.Fatalf("%v\nis the view, not\n%v\nof\n%s", got, want, brief(w))
	}
}

// checkSeen fails unless a valid simulation has this bound of what is left, and is completed or not.
func checkSeen(t *testing.T, w world, least int, over bool) {
	t.Helper()
	checkView(t, w)
	if v := viewOf(w); !impl.WldOk(w) || v.Least != least || v.Over != over {
		t.Errorf("least %d, not %d, and completed: %v, not %v:\n%s", v.Least, least, v.Over, over, brief(w))
	}
}

// finished is a simulation that calm rounds have completed.
func finished(m model, lazy bool) world {
	return impl.WldCalm(impl.WldNew(m, lazy), 140)
}

// smallModels have one component, some, or CmpMost; some have external events.
func smallModels() []model {
	return []model{someModel(), exampleModel(), endless(1, 3), endless(4, 6), endless(4, 0), plainModel(1, 0), plainModel(1, 99), plainModel(4, 20)}
}

func TestViewsAreAsDefined(t *testing.T) {
	manyWalks(137, 100, func(_ world, _ action, w world) { checkView(t, w) })
	for _, w := range strangeWorlds() {
		checkView(t, w)
	}
	d := &draw{at: 139}
	for range 1000 {
		w := someWorld()
		d.change(&w)
		checkView(t, w)
	}
}

func TestViewsOfASimulationThatHasDoneNothing(t *testing.T) {
	for _, m := range append(manyModels(), smallModels()...) {
		for _, lazy := range []bool{false, true} {
			w := impl.WldNew(m, lazy)
			least := m.Until + 1
			if len(m.Starts) > 0 {
				least = m.Starts[0].T
			}
			checkSeen(t, w, least, false)
			if got := viewOf(w); len(got.Log) > 0 || !same(got.Freed, w) {
				t.Errorf("%v", got)
			}
		}
	}
}

func TestViewsOfACompletedSimulation(t *testing.T) {
	for _, m := range append(manyModels(), smallModels()...) {
		for _, lazy := range []bool{false, true} {
			w := finished(m, lazy)
			checkSeen(t, w, m.Until+1, true)
			if got := viewOf(w); !slices.Equal(got.Log, impl.SeqAll(m).Log) || !same(got.Freed, w) {
				t.Errorf("%v", got)
			}
		}
	}
}

// What does not keep a simulation from being completed.
func TestCompletedWithTokenCountsAndRecords(t *testing.T) {
	for i, change := range []func(*world){
		func(w *world) { w.Lazy = !w.Lazy },
		func(w *world) { w.Tok.On, w.Tok.At, w.Tok.Many, w.Tok.Least = true, 2, -7, 0 },
		func(w *world) { w.Marks[1] = counted(w.Tok.Round, 5, -9999, 0) },
		func(w *world) { w.Hosts[2].Ids = 9999 },
		func(w *world) { w.Hosts[0].Now = comp{S: 96, Seq: 12, Count: 1000} },
		func(w *world) { w.Logs = make([][]record, 3) },
		func(w *world) { w.Logs[1] = []record{{Ev: event{T: 20, To: 1, From: 1}, S: 5}} },
	} {
		w := finished(someModel(), i%2 == 0)
		change(&w)
		checkSeen(t, w, 21, true)
	}
}

// oneMore are changes of a completed simulation, after which it is completed but for one thing at component c with this timestamp.
func oneMore(c, at int) map[string]func(*world) {
	it := numbered(event{T: at, To: c, From: c, Seq: 3, Kind: 1, Data: 8}, 0)
	changes := map[string]func(*world){
		"message":      func(w *world) { w.Net = []parcel{{Msg: message{It: it}}} },
		"anti-message": func(w *world) { w.Net = []parcel{{Msg: message{Off: true, It: it}}} },
		"Wait":         func(w *world) { w.Hosts[c].Wait = []item{it} },
		"Anti":         func(w *world) { w.Hosts[c].Anti = []item{it} },
	}
	if at > 0 {
		changes["Keep"] = func(w *world) {
			w.Hosts[c].Ids = 1
			w.Hosts[c].Keep = []kept{{By: event{T: at - 1, To: c, From: -1}, Sent: it}}
		}
	}
	return changes
}

func TestCompletedButForOneThing(t *testing.T) {
	for _, m := range smallModels() {
		for i := range 2 * len(m.Rules) {
			c, lazy := i/2, i%2 == 0
			for _, at := range []int{0, m.Until / 2, m.Until} {
				for name, change := range oneMore(c, at) {
					w := finished(m, lazy)
					if change(&w); len(w.Net)+holds(w) != 1 {
						t.Errorf("%s: more than one thing", name)
					}
					checkSeen(t, w, at, false)
				}
			}
			w := finished(m, lazy)
			w.Hosts[c].Wait = []item{numbered(event{T: m.Until, To: c, From: -1}, 0)}
			w.Hosts[c] = sceneOf(w, c).do().H
			if len(w.Hosts[c].Done) != 1 || holds(w) != 1 {
				t.Errorf("host %d has not processed one item: %v", c, w.Hosts)
			}
			checkSeen(t, w, m.Until+1, false)
		}
	}
}

func TestCompletedButForTheBound(t *testing.T) {
	for _, m := range smallModels() {
		for _, bound := range []int{0, m.Until / 2, m.Until, m.Until + 1} {
			w := finished(m, true)
			w.Bound, w.Logs = bound, make([][]record, len(m.Rules))
			checkSeen(t, w, m.Until+1, bound == m.Until+1)
		}
	}
}

func TestHostsWithoutAnythingAndMessages(t *testing.T) {
	for _, times := range [][]int{{4}, {20, 0}, {9, 3, 15}, {2, 2}} {
		for _, bound := range []int{0, 20, 21} {
			w := impl.WldNew(plainModel(3, 20), false)
			w.Bound = bound
			for i, at := range times {
				it := numbered(event{T: at, To: 2 - i, From: i}, i)
				w.Net = append(w.Net, parcel{Msg: message{Off: i%2 == 0, It: it}})
			}
			checkSeen(t, w, slices.Min(times), false)
			// The other way round.
			for _, x := range w.Net {
				to := x.Msg.It.Ev.To
				w.Hosts[to].Wait = []item{x.Msg.It}
			}
			w.Net = nil
			checkSeen(t, w, slices.Min(times), false)
		}
	}
}

// The least timestamp may be anywhere.
func TestVueLeastFindsEveryPlace(t *testing.T) {
	for c := range 3 {
		for name, change := range oneMore(c, 1) {
			w := someWorld()
			for i := range w.Hosts {
				w.Hosts[i].Wait, w.Hosts[i].Anti, w.Hosts[i].Keep = nil, nil, nil
			}
			w.Hosts[c].Done = nil
			w.Net = slices.DeleteFunc(w.Net, func(x parcel) bool { return x.Msg.It.Ev.T < 2 })
			checkSeen(t, w, 2, false)
			net := w.Net
			if change(&w); len(w.Net) == 1 {
				w.Net = append(net, w.Net...)
			}
			if got := impl.VueLeast(w); got != 1 {
				t.Errorf("%s of host %d: %d:\n%s", name, c, got, brief(w))
			}
			checkView(t, w)
		}
	}
}

// What was processed or committed is not left, and the bound does not count.
func TestVueLeastIgnoresWhatIsDone(t *testing.T) {
	w := impl.WldStep(impl.WldNew(exampleModel(), false), doing(0))
	checkSeen(t, w, 3, false)
	w.Net = nil
	checkSeen(t, w, 11, false)
	w.Bound = 2
	checkSeen(t, w, 11, false)
	checkSeen(t, impl.VueFree(w), 11, false)
}

// recorded is a simulation with these committed records and nothing else.
func recorded(many int, list ...record) world {
	w := impl.WldNew(plainModel(many, 20), false)
	w.Bound = 21
	for _, r := range list {
		w.Logs[r.Ev.To] = append(w.Logs[r.Ev.To], r)
	}
	return w
}

func TestVueLogMergesByMoreThanTheTimestamp(t *testing.T) {
	list := []record{
		{Ev: event{T: 0, To: 3, From: 2}, S: 9},
		{Ev: event{T: 5, To: 0, From: 1, Seq: 2, Kind: 2, Data: 96}, S: 8},
		{Ev: event{T: 5, To: 0, From: 2}, S: 96},
		{Ev: event{T: 5, To: 1, From: -1, Seq: 7}, S: 7},
		{Ev: event{T: 5, To: 1, From: 0, Seq: 7}, S: 2},
		{Ev: event{T: 5, To: 1, From: 0, Seq: 7, Kind: 1}, S: 1},
		{Ev: event{T: 5, To: 3, From: -1}},
		{Ev: event{T: 5, To: 3, From: -1, Data: 1}},
		{Ev: event{T: 6, To: 0, From: -1}, S: 3},
		{Ev: event{T: 20, To: 1, From: 3, Seq: 11}, S: 4},
	}
	w := recorded(4, list...)
	if got := impl.VueLog(w); !slices.Equal(got, list) {
		t.Errorf("%v", got)
	}
	checkView(t, w)
	for at := range list {
		if got := impl.VueLog(recorded(4, list[at])); !slices.Equal(got, list[at:at+1]) {
			t.Errorf("record %d: %v", at, got)
		}
	}
}

func TestVueLogOfOneHostAlone(t *testing.T) {
	for many := 1; many <= 4; many++ {
		for c := range many {
			var list []record
			for i := range 30 {
				list = append(list, record{Ev: event{T: i / 2, To: c, From: i%2 - 1, Seq: 3}, S: 96 - i})
			}
			if got := impl.VueLog(recorded(many, list...)); !slices.Equal(got, list) {
				t.Errorf("host %d: %v", c, got)
			}
		}
		if got := impl.VueLog(recorded(many)); len(got) > 0 {
			t.Errorf("no records: %v", got)
		}
	}
}

// Few timestamps, so that most often something else decides.
func TestVueLogOfManyRecords(t *testing.T) {
	d := &draw{at: 149}
	for many := 1; many <= 4; many++ {
		for n := range 50 {
			var evs []event
			for range n {
				e := event{T: d.below(3), To: d.below(many), From: d.between(-1, many-1), Seq: d.below(3), Kind: d.below(3), Data: d.below(3)}
				if !slices.Contains(evs, e) {
					evs = impl.EvtPut(evs, e)
				}
			}
			var list []record
			for _, e := range evs {
				list = append(list, record{Ev: e, S: d.below(97)})
			}
			if got := impl.VueLog(recorded(many, list...)); !slices.Equal(got, list) {
				t.Fatalf("%v, not %v", got, list)
			}
		}
	}
}

func TestVueFreeBeforeAtAndAfterAnEvent(t *testing.T) {
	m := model{Rules: make([][]rule, 3), Until: 20}
	for i, at := range []int{4, 6, 6, 20} {
		m.Starts = append(m.Starts, event{T: at, To: i % 3, From: -1})
	}
	for bound, want := range map[int]int{0: 0, 3: 0, 4: 0, 5: 1, 6: 1, 7: 3, 20: 3, 21: 4} {
		w := impl.WldRun(impl.WldNew(m, false), []action{doing(0), doing(1), doing(2), doing(0)})
		w.Bound = bound
		checkView(t, w)
		got := impl.VueFree(w)
		log := impl.VueLog(got)
		if len(log) != want || !slices.Equal(log, impl.SeqUpto(m, bound)) || holds(got) != 4-want {
			t.Errorf("bound %d: %v\n%s", bound, log, brief(got))
		}
		if impl.VueOver(got) != (bound == 21) {
			t.Errorf("bound %d: completed is not %v", bound, bound == 21)
		}
	}
}

// Every host commits, and each of them behind what it has committed before.
func TestVueFreeOfEveryHost(t *testing.T) {
	w := someWorld()
	w.Bound = 21
	got := impl.VueFree(w)
	want := plain(w)
	for c, h := range w.Hosts {
		for _, x := range h.Done {
			want.Logs[c] = append(want.Logs[c], record{Ev: x.It.Ev, S: x.S})
		}
		want.Hosts[c].Done = nil
	}
	if !same(got, want) {
		t.Fatalf("%s\nnot\n%s", brief(got), brief(want))
	}
}

// Validity is checked only at the beginning, so that records may get out of order.
func TestVueFreeDoesNotCheckItsResult(t *testing.T) {
	w := someWorld()
	w.Logs[0][1].Ev.Seq = 10
	checkView(t, w)
	got := impl.VueFree(w)
	if len(got.Logs[0]) != 3 || impl.WldOk(got) || !same(viewOf(got), unseen) {
		t.Fatal(brief(got))
	}
}

// Invalid simulations.

// spoils are changes of a valid simulation of someModel, after any of which it is invalid.
func spoils() map[string][]func(*world) {
	list := map[string][]func(*world){
		"model": {
			func(w *world) { w.Model = model{} },
			func(w *world) { w.Model.Until = 19 },
			func(w *world) { w.Model.Until = 100 },
			func(w *world) { w.Model.Rules = w.Model.Rules[:2] },
			func(w *world) { w.Model.Rules = append(w.Model.Rules, nil) },
		},
		"hosts": {
			func(w *world) { w.Hosts = nil },
			func(w *world) { w.Hosts = w.Hosts[:2] },
			func(w *world) { w.Hosts = append(w.Hosts, host{}) },
		},
		"marks": {
			func(w *world) { w.Marks = nil },
			func(w *world) { w.Marks = w.Marks[:2] },
			func(w *world) { w.Marks = append(w.Marks, w.Marks[0]) },
		},
		"token": {
			func(w *world) { w.Tok.Round = -1 },
			func(w *world) { w.Tok.Round = 1000 },
			func(w *world) { w.Tok.Round += 2 },
			func(w *world) { w.Tok.At = -1 },
			func(w *world) { w.Tok.At = 3 },
			func(w *world) { w.Tok.Many = 39997 },
			func(w *world) { w.Tok.Least = -1 },
			func(w *world) { w.Tok.Least = 22 },
		},
		"bound": {
			func(w *world) { w.Bound = -1 },
			func(w *world) { w.Bound = 22 },
			func(w *world) { w.Bound = math.MaxInt },
		},
		"logs": {
			func(w *world) { w.Logs = nil },
			func(w *world) { w.Logs = w.Logs[:2] },
			func(w *world) { w.Logs = append(w.Logs, nil) },
		},
	}
	for c := range 3 {
		list["message"] = append(list["message"], spoiledMessages(c)...)
		list["record"] = append(list["record"], spoiledRecords(c)...)
		list["mark"] = append(list["mark"],
			func(w *world) { w.Marks[c].Round = -1 },
			func(w *world) { w.Marks[c].Round = w.Tok.Round + 1 },
			func(w *world) { w.Marks[c].Round = w.Tok.Round - 2 },
			func(w *world) { w.Marks[c].Even = 10000 },
			func(w *world) { w.Marks[c].Odd = -10000 },
			func(w *world) { w.Marks[c].Least = -1 },
			func(w *world) { w.Marks[c].Least = 22 })
		list["host"] = append(list["host"], spoiledHosts(c)...)
	}
	return list
}

// spoiledHosts change one number of a host, or give it one thing that is invalid.
func spoiledHosts(c int) []func(*world) {
	return []func(*world){
		func(w *world) { w.Hosts[c].Now.S = 97 },
		func(w *world) { w.Hosts[c].Now.Seq = 13 },
		func(w *world) { w.Hosts[c].Now.Count = -1 },
		func(w *world) { w.Hosts[c].Ids = -1 },
		func(w *world) { w.Hosts[c].Ids = 10000 },
		func(w *world) { w.Hosts[c].Done = append(w.Hosts[c].Done, done{It: item{Ev: event{T: 21, To: c}}}) },
		func(w *world) { w.Hosts[c].Wait = []item{{Ev: event{T: 21, To: c}}} },
		func(w *world) { w.Hosts[c].Anti = []item{{Ev: event{T: 2, To: (c + 1) % 3}}} },
		func(w *world) { w.Hosts[c].Keep = []kept{{By: event{To: c}, Sent: item{Ev: event{From: c}}}} },
	}
}

// spoiledMessages send one more message, to a component, that is invalid.
func spoiledMessages(c int) []func(*world) {
	var list []func(*world)
	for _, x := range []parcel{
		{Msg: message{It: numbered(event{T: 2, To: c, From: -1}, 0)}},
		{Msg: message{It: numbered(event{T: 21, To: c}, 0)}},
		{Msg: message{It: numbered(event{T: 2, To: c - 3}, 0)}},
		{Msg: message{It: numbered(event{T: 2, To: c}, 9999)}},
		{Msg: message{Off: true, It: numbered(event{T: -1, To: c}, 0)}},
		{Msg: message{It: numbered(event{T: 2, To: c}, 0)}, Round: -1},
		{Msg: message{It: numbered(event{T: 2, To: c}, 0)}, Round: 1000},
	} {
		list = append(list, func(w *world) { w.Net = append(w.Net, x) })
	}
	return append(list, func(w *world) { w.Net = make([]parcel, 1501) })
}

// spoiledRecords are one more record, or two, of a component, at the end of what it has committed, that are invalid.
func spoiledRecords(c int) []func(*world) {
	var list []func(*world)
	last := event{T: 20, To: c, From: 2, Seq: 11, Kind: 2, Data: 96}
	for _, more := range [][]record{
		{{Ev: last, S: 97}},
		{{Ev: last, S: -1}},
		{{Ev: event{T: 21, To: c}}},
		{{Ev: event{T: 20, To: (c + 1) % 3}}},
		{{Ev: event{T: 20, To: c, From: 3}}},
		{{Ev: last}, {Ev: last}},
		{{Ev: last}, {Ev: event{T: 20, To: c, From: 2, Seq: 11, Kind: 2, Data: 95}}},
		{{Ev: last}, {Ev: event{T: 19, To: c}}},
	} {
		list = append(list, func(w *world) { w.Bound, w.Logs[c] = 21, append(w.Logs[c], more...) })
	}
	return append(list, func(w *world) { w.Bound, w.Logs[c] = 20, []record{{Ev: last}} })
}

func TestViewsOfInvalidSimulations(t *testing.T) {
	checkNoView(t, world{})
	for name, changes := range spoils() {
		for i, change := range changes {
			for _, w := range []world{someWorld(), finished(someModel(), true), impl.WldNew(someModel(), false)} {
				change(&w)
				if worldByDefinition(w) {
					t.Errorf("%s: change %d leaves this valid:\n%s", name, i, brief(w))
				}
				checkNoView(t, w)
			}
		}
	}
	for _, m := range badModels() {
		w := finished(someModel(), false)
		w.Model = m
		checkNoView(t, w)
		checkNoView(t, world{Model: m})
	}
}

// checkNoView fails unless the functions return nil, the zero value, -1 and false.
func checkNoView(t *testing.T, w world) {
	t.Helper()
	if got := viewOf(w); !same(got, unseen) {
		t.Errorf("%v is the view of the invalid\n%s", got, brief(w))
	}
}

// Promise 63.

func TestCommittedRecordsAreListedInOrder(t *testing.T) {
	check := func(w world) {
		log, at := impl.VueLog(w), make([]int, len(w.Logs))
		for i, r := range log {
			c := r.Ev.To
			if i > 0 && !impl.EvtLess(log[i-1].Ev, r.Ev) || at[c] == len(w.Logs[c]) || w.Logs[c][at[c]] != r {
				t.Fatalf("record %d of %v:\n%s", i, log, brief(w))
			}
			at[c]++
		}
		if len(log) != len(slices.Concat(w.Logs...)) {
			t.Fatalf("records are missing: %v:\n%s", log, brief(w))
		}
		checkFreed(t, w)
	}
	several := 0
	manyWalks(151, 120, func(_ world, _ action, w world) {
		if check(w); len(w.Logs) > 1 && len(w.Logs[0]) > 0 && len(w.Logs[1]) > 0 {
			several++
		}
	})
	for _, w := range strangeWorlds() {
		check(w)
	}
	if several < 1000 {
		t.Fatalf("several hosts have committed %d times", several)
	}
}

// checkFreed fails unless nothing before the bound can be rolled back after VueFree, and nothing else changes.
func checkFreed(t *testing.T, w world) {
	t.Helper()
	got := impl.VueFree(w)
	// Records that are out of order are not freed twice.
	if !grown(w, got) || impl.WldOk(got) && !same(impl.VueFree(got), got) {
		t.Fatalf("%s\nis freed to\n%s", brief(w), brief(got))
	}
	back := plain(got)
	back.Logs = w.Logs
	for c, h := range got.Hosts {
		if len(h.Done) > 0 && h.Done[0].It.Ev.T < w.Bound {
			t.Fatalf("host %d can roll back before the bound:\n%s", c, brief(got))
		}
		back.Hosts[c].Done = w.Hosts[c].Done
		if more := len(got.Logs[c]) - len(w.Logs[c]); more+len(h.Done) != len(w.Hosts[c].Done) {
			t.Fatalf("host %d has lost what it has processed:\n%s", c, brief(got))
		}
	}
	if !same(back, w) {
		t.Fatalf("%s\nis freed to\n%s", brief(w), brief(got))
	}
}

// Promise 64.

func TestVueLeastIsNotAfterAnythingLeft(t *testing.T) {
	check := func(w world) {
		least := impl.VueLeast(w)
		left := []int{w.Model.Until + 1}
		for _, h := range w.Hosts {
			for _, it := range append(slices.Clone(h.Wait), h.Anti...) {
				left = append(left, it.Ev.T)
			}
			for _, k := range h.Keep {
				left = append(left, k.Sent.Ev.T)
			}
		}
		for _, x := range w.Net {
			left = append(left, x.Msg.It.Ev.T)
		}
		if least != slices.Min(left) || impl.VueOver(w) && least != w.Model.Until+1 {
			t.Fatalf("%d, not the least of %v:\n%s", least, left, brief(w))
		}
	}
	manyWalks(157, 120, func(_ world, _ action, w world) { check(w) })
	for _, w := range strangeWorlds() {
		check(w)
	}
}

// completedWorlds are completed; some of them cannot have come about.
func completedWorlds() []world {
	d := &draw{at: 163}
	var list []world
	for i, m := range append(smallModels(), manyModels()[100:]...) {
		w := finished(m, i%2 == 0)
		list = append(list, w)
		w = plain(w)
		w.Tok = token{On: true, Round: d.between(0, 999), At: d.below(len(m.Rules)), Many: d.between(-3, 3), Least: d.between(0, m.Until+1)}
		for c := range w.Hosts {
			w.Hosts[c].Now, w.Hosts[c].Ids = comp{S: d.below(97), Seq: d.below(13), Count: d.below(99)}, d.between(0, 9999)
			w.Marks[c] = counted(w.Tok.Round, d.between(-3, 3), d.between(-3, 3), d.between(0, m.Until+1))
			// A host that the token has left is in the token's round.
			if c >= w.Tok.At && w.Tok.Round > 0 {
				w.Marks[c].Round -= d.below(2)
			}
		}
		list = append(list, w)
	}
	return list
}

func TestCompletedSimulationsStayCompleted(t *testing.T) {
	d := &draw{at: 167}
	check := func(w world) {
		t.Helper()
		checkSeen(t, w, w.Model.Until+1, true)
	}
	for _, w := range completedWorlds() {
		check(w)
		check(impl.VueFree(w))
		for _, n := range []int{-1, 0, 1, 139, 140} {
			check(impl.WldCalm(w, n))
		}
		for _, a := range manyActions(w) {
			check(impl.WldStep(w, a))
		}
		log := impl.VueLog(w)
		for range 40 {
			w = impl.WldStep(w, d.action(w, anyOrder))
			check(w)
		}
		if !slices.Equal(impl.VueLog(w), log) {
			t.Fatalf("not %v any more:\n%s", log, brief(w))
		}
	}
	if many := len(completedWorlds()); many < 120 {
		t.Fatalf("%d worlds", many)
	}
}

// Memory.

func TestViewsOwnTheirMemory(t *testing.T) {
	list := []world{{}, someWorld(), crossing(t), crowded(20), crowded(1501), {Model: badModels()[3]}}
	list = append(list, strangeWorlds()[:10]...)
	for i, m := range manyModels() {
		if i%5 == 0 {
			j := (&draw{at: 173}).journey(m, i%2 == 0, manner(i)%manners, 40)
			list = append(list, j.Worlds[0], j.Worlds[40], finished(m, i%2 == 0))
		}
	}
	late, ready := someWorld(), someWorld()
	late.Marks = late.Marks[1:]
	ready.Bound = 21
	for _, w := range append(list, late, ready) {
		checkOwned(t, "VueLog", w, impl.VueLog)
		checkOwned(t, "VueFree", w, impl.VueFree)
		checkOwned(t, "VueLeast", w, impl.VueLeast)
		checkOwned(t, "VueOver", w, impl.VueOver)
	}
}
