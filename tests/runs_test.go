package tests

import (
	"cmp"
	"math"
	"runtime"
	"slices"
	"sync"
	"testing"

	"loop.example/turnback/impl"
)

// Promise 54.

// places counts where an item is: in the network, waiting, processed or committed.
func places(w world, it item) int {
	h, n := w.Hosts[it.Ev.To], 0
	for _, x := range w.Net {
		if !x.Msg.Off && x.Msg.It == it {
			n++
		}
	}
	for _, list := range [][]item{h.Wait, doneItems(h)} {
		for _, other := range list {
			if other == it {
				n++
			}
		}
	}
	for _, r := range w.Logs[it.Ev.To] {
		if r.Ev == it.Ev {
			n++
		}
	}
	return n
}

// sentItems are the items that hosts have sent by processed events, or kept.
func sentItems(w world) []item {
	var list []item
	for _, h := range w.Hosts {
		for _, d := range h.Done {
			list = append(list, d.Sent...)
		}
		for _, k := range h.Keep {
			list = append(list, k.Sent)
		}
	}
	return list
}

func TestEverySentItemIsInOnePlace(t *testing.T) {
	sent := 0
	manyWalks(71, 150, func(_ world, _ action, w world) {
		for _, it := range sentItems(w) {
			if sent++; places(w, it) != 1 {
				t.Fatalf("%v is in %d places:\n%s", it, places(w, it), brief(w))
			}
		}
		for _, h := range w.Hosts {
			for _, it := range doneItems(h) {
				if slices.Contains(h.Wait, it) {
					t.Fatalf("%v waits and is processed:\n%s", it, brief(w))
				}
			}
		}
	})
	if sent < 10000 {
		t.Fatal(sent)
	}
}

// Promise 55.

// checkCounts fails unless the counts of even rounds add up to the messages of even rounds, and those of odd ones likewise.
func checkCounts(t *testing.T, w world) {
	t.Helper()
	for colour := range 2 {
		counted, there := 0, 0
		for _, g := range w.Marks {
			counted += *countOf(&g, colour)
		}
		if w.Tok.On && w.Tok.Round%2 != colour {
			counted += w.Tok.Many
		}
		for _, x := range w.Net {
			if x.Round%2 == colour {
				there++
			}
		}
		if counted != there {
			t.Fatalf("%d messages of colour %d, not %d:\n%s", counted, colour, there, brief(w))
		}
	}
}

func TestCountsAreMessages(t *testing.T) {
	both := 0
	manyWalks(73, 150, func(_ world, _ action, w world) {
		checkCounts(t, w)
		colours := [2]int{}
		for _, x := range w.Net {
			colours[x.Round%2]++
		}
		if colours[0] > 0 && colours[1] > 0 {
			both++
		}
	})
	if both < 500 {
		t.Fatalf("messages of both colours were in the network %d times", both)
	}
}

func TestCountsAreMessagesInCalmRounds(t *testing.T) {
	for _, m := range manyModels() {
		w := impl.WldNew(m, true)
		for range 20 {
			w = impl.WldCalm(w, 1)
			checkCounts(t, w)
		}
	}
}

// Messages that overtake each other.

// crossing is a simulation in which host 1 has taken back what it sent to host 0: the item and its anti-message are in the network, in this order.
func crossing(t *testing.T) world {
	t.Helper()
	m := model{
		Rules: [][]rule{
			{{A: 1, B: 1, C: 1, Sends: []send{{To: 1, Delay: 2, Kind: 1, Plus: 3, Mod: 1}}}},
			{{Kind: 1, A: 2, B: 1, Sends: []send{{To: 0, Delay: 3, Mod: 1}}}},
		},
		Starts: []event{{T: 1, From: -1, Data: 5}, {T: 2, From: -1, Seq: 1}},
		Until:  10,
	}
	w := impl.WldRun(impl.WldNew(m, false), []action{doing(0), doing(0), hearing(1), doing(1), hearing(0)})
	it := numbered(event{T: 7, To: 0, From: 1, Data: 10}, 0)
	if !slices.Equal(w.Net, []parcel{{Msg: message{It: it}}, {Msg: message{Off: true, It: it}}}) {
		t.Fatal(brief(w))
	}
	return w
}

func TestAntiMessagesInBothOrders(t *testing.T) {
	w := crossing(t)
	inOrder := impl.WldRun(w, []action{hearing(0), hearing(0)})
	overtaken := impl.WldRun(w, []action{hearing(1), hearing(0)})
	processed := impl.WldRun(w, []action{hearing(0), doing(0), hearing(0)})
	late := impl.WldRun(w, []action{hearing(1), doing(0), hearing(0)})
	if h := impl.WldStep(w, hearing(1)).Hosts[0]; !slices.Equal(h.Anti, []item{w.Net[0].Msg.It}) {
		t.Error(h)
	}
	if h := impl.WldStep(w, hearing(0)).Hosts[0]; !slices.Equal(h.Wait, []item{w.Net[0].Msg.It}) {
		t.Error(h)
	}
	for _, got := range []world{inOrder, overtaken, late} {
		if !same(got.Hosts, w.Hosts) || !same(got, inOrder) || len(got.Net) > 0 {
			t.Error(brief(got))
		}
	}
	// What was processed sent a message, which is called off as well.
	sent := processed.Net
	if len(sent) != 2 || sent[0].Msg.Off || !sent[1].Msg.Off || sent[0].Msg.It != sent[1].Msg.It {
		t.Error(brief(processed))
	}
	if len(processed.Hosts[0].Wait) > 0 || processed.Hosts[0].Now != w.Hosts[0].Now || len(processed.Hosts[0].Done) != 2 {
		t.Error(brief(processed))
	}
}

// Promise 57.

func TestSimulationStaysValidInCalmRounds(t *testing.T) {
	d := &draw{at: 79}
	for i, m := range manyModels() {
		for _, lazy := range []bool{false, true} {
			w := impl.WldNew(m, lazy)
			d.walk(m, lazy, manner(i)%manners, d.below(60), func(_ world, _ action, next world) { w = next })
			for range 15 {
				w = impl.WldCalm(w, d.between(1, 3))
				if !impl.WldOk(w) || !worldByDefinition(w) || len(w.Net) > impl.NetMost {
					t.Fatal(brief(w))
				}
			}
		}
	}
}

// Promise 58.

// journey are the actions of a walk, and the simulations before and after each of them.
type journey struct {
	Acts   []action
	Worlds []world
}

func (d *draw) journey(m model, lazy bool, how manner, steps int) journey {
	j := journey{Worlds: []world{impl.WldNew(m, lazy)}}
	d.walk(m, lazy, how, steps, func(_ world, a action, next world) {
		j.Acts = append(j.Acts, a)
		j.Worlds = append(j.Worlds, next)
	})
	return j
}

func TestRunsCompose(t *testing.T) {
	d := &draw{at: 83}
	for i, m := range manyModels() {
		for _, lazy := range []bool{false, true} {
			j := d.journey(m, lazy, manner(i)%manners, min(impl.ActMost, 10+5*len(impl.SeqAll(m).Log)))
			end := len(j.Acts)
			for _, from := range []int{0, d.below(end), end} {
				for _, to := range []int{from, min(from+1, end), d.between(from, end), end} {
					if got := impl.WldRun(j.Worlds[from], j.Acts[from:to]); !same(got, j.Worlds[to]) {
						t.Fatalf("%v leads from\n%s\nto\n%s", j.Acts[from:to], brief(j.Worlds[from]), brief(got))
					}
				}
			}
		}
	}
}

func TestWldRunOfStrangeWorlds(t *testing.T) {
	d := &draw{at: 89}
	for _, w := range strangeWorlds() {
		for range 10 {
			var list []action
			x := w
			for range d.below(30) {
				list = append(list, d.action(x, anyOrder))
				x = actByDefinition(x, list[len(list)-1])
			}
			checkRun(t, w, list)
		}
	}
}

// checkRun fails unless a run is its actions one after the other, whatever becomes of the simulation.
func checkRun(t *testing.T, w world, list []action) {
	t.Helper()
	if got, want := impl.WldRun(w, list), runByDefinition(w, list); !same(got, want) {
		t.Fatalf("%v leads from\n%s\nto\n%s\nnot\n%s", list, brief(w), brief(got), brief(want))
	}
}

func TestWldRunNumberOfActions(t *testing.T) {
	for _, start := range []world{someWorld(), impl.WldNew(endless(1, 6), true), impl.WldNew(endless(4, 6), false)} {
		for _, n := range []int{0, 1, 2, 299, 300} {
			list := make([]action, n)
			if got := impl.WldRun(start, list); !same(got, start) {
				t.Fatalf("%d unknown actions: %s", n, brief(got))
			}
			for i := range list {
				list[i] = []action{doing(i % 5), hearing(0), hearing(1), beginning, visiting, freeing(i % 4)}[i%6]
			}
			checkRun(t, start, list)
		}
		for _, n := range []int{301, 302, 1000} {
			if got := impl.WldRun(start, make([]action, n)); !same(got, world{}) {
				t.Fatalf("%d actions: %s", n, brief(got))
			}
		}
	}
}

// leaving are valid simulations, with actions after which some part is not valid.
func leaving() map[string]journey {
	more := []action{doing(0), hearing(0), beginning, visiting, hearing(0), doing(0), freeing(0), visiting, visiting, freeing(0)}
	list := map[string]journey{}
	add := func(name string, w world, first ...action) {
		list[name] = journey{append(first, more...), []world{w}}
	}
	w := impl.WldNew(endless(2, 3), false)
	w.Marks[0].Even = 9998
	add("even messages", w, doing(0))
	w = impl.WldNew(endless(2, 3), true)
	w.Tok.Round, w.Marks[0], w.Marks[1] = 1, counted(1, 0, 9999, 100), counted(1, 0, 0, 100)
	add("odd messages", w, doing(0))
	w = someWorld()
	w.Marks[0].Even, w.Marks[0].Odd = -9999, -9999
	add("received messages", w, hearing(0), hearing(2), hearing(1))
	w = someWorld()
	w.Tok.Many, w.Marks[1].Even = 39996, 1
	add("messages that the token counts", w, visiting)
	w = someWorld()
	w.Tok.At, w.Tok.Many = 2, 0
	w.Marks[2].Odd = 0
	add("a round that a mark has missed", w, visiting, beginning, visiting, visiting)
	w = someWorld()
	w.Logs[0][1].Ev.Seq = 10
	add("records out of order", w, freeing(0))
	w = crowded(1350)
	w.Hosts[0].Wait = nil
	for i := range 200 {
		w.Hosts[0].Keep = append(w.Hosts[0].Keep, kept{By: event{T: i % 19}, Sent: numbered(event{T: 20, To: i % 3}, i%8)})
	}
	add("messages in the network", w, doing(0))
	return list
}

// The parts are checked only at the beginning of a run.
func TestRunsGoOnAfterPartsHaveLeftTheirRange(t *testing.T) {
	for name, j := range leaving() {
		start := j.Worlds[0]
		if !impl.WldOk(start) || !worldByDefinition(start) {
			t.Errorf("%s: this is not valid:\n%s", name, brief(start))
		}
		left := false
		for n := range j.Acts {
			checkRun(t, start, j.Acts[:n+1])
			w := impl.WldRun(start, j.Acts[:n])
			if next := impl.WldStep(w, j.Acts[n]); !impl.WldOk(w) {
				left = true
				checkRefused(t, w)
			} else if !same(next, actByDefinition(w, j.Acts[n])) {
				t.Errorf("%s: %v leads to\n%s", name, j.Acts[n], brief(next))
			}
		}
		for n := range 4 {
			checkCalm(t, start, n)
		}
		if !left {
			t.Errorf("%s: all parts stay in their range", name)
		}
	}
}

// A host that has received as many events as can be counted becomes invalid, but its run goes on.
func TestRunsGoOnAfterTheLastNumber(t *testing.T) {
	few, many := impl.WldNew(endless(1, 3), false), impl.WldNew(endless(1, 3), false)
	many.Hosts[0].Now.Count = math.MaxInt
	list := []action{doing(0), doing(0), hearing(0), doing(0), hearing(0), beginning, visiting, doing(0)}
	got, want := impl.WldRun(many, list), impl.WldRun(few, list)
	if impl.WldOk(impl.WldStep(many, doing(0))) || !same(impl.WldRun(impl.WldStep(many, doing(0)), nil), world{}) {
		t.Error("the host stays valid")
	}
	// Adding to a number wraps.
	most := math.MaxInt
	want.Hosts[0].Now.Count += most
	for i := range want.Hosts[0].Done {
		want.Hosts[0].Done[i].Before.Count += most
	}
	if len(want.Hosts[0].Done) < 3 || !same(got, want) {
		t.Fatalf("%s\nnot\n%s", brief(got), brief(want))
	}
}

// Promise 59.

// checkCalm fails unless calm rounds are the actions that the document names.
func checkCalm(t *testing.T, w world, n int) {
	t.Helper()
	want := w
	for range n {
		want = runByDefinition(want, calmByDefinition(want))
	}
	if got := impl.WldCalm(w, n); !same(got, want) {
		t.Fatalf("%d calm rounds lead from\n%s\nto\n%s\nnot\n%s", n, brief(w), brief(got), brief(want))
	}
}

func TestWldCalmIsAsDefined(t *testing.T) {
	d := &draw{at: 97}
	for i, m := range manyModels() {
		for _, lazy := range []bool{false, true} {
			w := impl.WldNew(m, lazy)
			checkCalm(t, w, 4)
			d.walk(m, lazy, manner(i)%manners, d.below(50), func(_ world, _ action, next world) { w = next })
			checkCalm(t, w, 1)
			checkCalm(t, impl.WldCalm(w, 1), 2)
		}
	}
	for _, w := range strangeWorlds() {
		for n := range 3 {
			checkCalm(t, w, n)
		}
	}
}

func TestWldCalmNumberOfRounds(t *testing.T) {
	for _, w := range []world{someWorld(), impl.WldNew(endless(1, 6), true), impl.WldNew(endless(4, 6), false), crossing(t)} {
		for _, n := range []int{math.MinInt, -150, -1, 0} {
			if got := impl.WldCalm(w, n); !same(got, w) {
				t.Errorf("%d rounds: %s", n, brief(got))
			}
			if got := impl.WldCalm(world{}, n); !same(got, world{}) {
				t.Errorf("%d rounds of an invalid simulation: %s", n, brief(got))
			}
		}
		for _, n := range []int{1, 2, 149, 150} {
			checkCalm(t, w, n)
			if got, want := impl.WldCalm(w, n), impl.WldCalm(impl.WldCalm(w, n-1), 1); !same(got, want) {
				t.Errorf("%d rounds: %s", n, brief(got))
			}
		}
		for _, n := range []int{151, 152, 1000, math.MaxInt} {
			if got := impl.WldCalm(w, n); !same(got, world{}) {
				t.Errorf("%d rounds: %s", n, brief(got))
			}
		}
	}
}

// A calm round delivers as many messages as there are when it begins, and not those that are sent meanwhile.
func TestCalmRoundDeliversWhatIsThere(t *testing.T) {
	w := impl.WldCalm(impl.WldNew(endless(2, 2), false), 1)
	if len(w.Net) != 2 || len(w.Hosts[0].Wait) != 1 || len(w.Hosts[0].Done)+len(w.Logs[0]) != 1 {
		t.Fatal(brief(w))
	}
	next := impl.WldCalm(w, 1)
	for _, x := range w.Net {
		if slices.Contains(next.Net, x) {
			t.Errorf("%v is not delivered:\n%s", x, brief(next))
		}
	}
	stuck := someWorld()
	slices.Reverse(stuck.Net)
	stuck.Net = stuck.Net[1:]
	if got := impl.WldCalm(stuck, 1); !same(got.Net[:7], stuck.Net) {
		t.Errorf("the first message is not new:\n%s", brief(got))
	}
}

func TestCalmRoundsWithoutRoundsLeft(t *testing.T) {
	for _, round := range []int{996, 997, 998, 999} {
		w := impl.WldNew(endless(3, 2), true)
		w.Tok.Round = round
		for c := range w.Marks {
			w.Marks[c].Round = round
		}
		for n := range 8 {
			checkCalm(t, w, n)
		}
		if got := impl.WldCalm(w, 150); got.Tok.Round != 999 || got.Tok.On {
			t.Errorf("round %d: %v", round, got.Tok)
		}
	}
}

func TestCalmRoundsWithoutRoom(t *testing.T) {
	for n, room := range map[int]bool{1350: true, 1351: false, 1500: false} {
		w := crowded(n)
		checkCalm(t, w, 2)
		if got := impl.WldCalm(w, 2); same(got.Net, w.Net) == room {
			t.Errorf("%d messages: room is not %v", n, room)
		}
	}
}

// Promises 59 and 60.

// grown says whether all committed records are still there, at the beginning of those that follow.
func grown(w, next world) bool {
	for c, log := range w.Logs {
		if len(next.Logs[c]) < len(log) || !slices.Equal(next.Logs[c][:len(log)], log) {
			return false
		}
	}
	return true
}

func TestCommitsArePermanent(t *testing.T) {
	manyWalks(103, 150, func(w world, a action, next world) {
		if !grown(w, next) || a.Kind != impl.ActFree && !same(w.Logs, next.Logs) {
			t.Fatalf("%v leads from\n%s\nto\n%s", a, brief(w), brief(next))
		}
		for c := range w.Logs {
			if a.Kind == impl.ActFree && c != a.At && len(w.Logs[c]) != len(next.Logs[c]) {
				t.Fatalf("%v leads from\n%s\nto\n%s", a, brief(w), brief(next))
			}
		}
	})
}

func TestRecordsGrowInCalmRounds(t *testing.T) {
	d := &draw{at: 109}
	for i, m := range manyModels() {
		w := impl.WldNew(m, i%2 == 0)
		d.walk(m, i%2 == 0, manner(i)%manners, d.below(80), func(_ world, _ action, next world) { w = next })
		for range 10 {
			next := impl.WldCalm(w, d.below(4))
			if !grown(w, next) {
				t.Fatalf("from\n%s\nto\n%s", brief(w), brief(next))
			}
			w = next
		}
	}
}

// Promise 61.

// sortedNet is a simulation whose messages are in an order that does not depend on when they were sent.
func sortedNet(w world) world {
	w = plain(w)
	slices.SortFunc(w.Net, func(a, b parcel) int {
		if by := cmp.Or(itemInOrder(a.Msg.It, b.Msg.It), cmp.Compare(a.Round, b.Round)); by != 0 || a.Msg.Off == b.Msg.Off {
			return by
		}
		if a.Msg.Off {
			return 1
		}
		return -1
	})
	return w
}

func TestHostsAreIndependentBetweenMessages(t *testing.T) {
	both := 0
	check := func(w world) {
		for a := range w.Hosts {
			for b := range a {
				first := impl.WldRun(w, []action{doing(a), doing(b)})
				second := impl.WldRun(w, []action{doing(b), doing(a)})
				if !same(sortedNet(first), sortedNet(second)) {
					t.Fatalf("hosts %d and %d of\n%s\n%s\n%s", a, b, brief(w), brief(first), brief(second))
				}
				if !same(first.Net, second.Net) {
					both++
				}
			}
		}
	}
	n := 0
	manyWalks(113, 100, func(w world, _ action, _ world) {
		if n++; n%5 == 0 {
			check(w)
		}
	})
	for _, w := range strangeWorlds() {
		check(w)
	}
	if both < 300 {
		t.Fatalf("both hosts have sent %d times", both)
	}
}

// Promise 62.

func TestSingleHostNeverRollsBack(t *testing.T) {
	d := &draw{at: 127}
	var list []model
	for starts := range 7 {
		list = append(list, endless(1, starts))
		for _, until := range []int{0, 1, 9, 40, 99} {
			list = append(list, d.model(1, starts, until), d.model(1, starts, until))
		}
	}
	for _, m := range list {
		for _, lazy := range []bool{false, true} {
			checkSingle(t, d, m, lazy)
		}
	}
}

// checkSingle fails if the only host of a model rolls back, or processes anything but what the sequential simulator does.
func checkSingle(t *testing.T, d *draw, m model, lazy bool) {
	t.Helper()
	want := impl.SeqAll(m).Log
	w := impl.WldNew(m, lazy)
	for steps := 0; ; steps++ {
		before := processed(w, 0)
		if len(before) > len(want) || !slices.Equal(before, want[:len(before)]) {
			t.Fatalf("%s\nnot %v", brief(w), want)
		}
		if len(w.Hosts[0].Wait) == 0 {
			break
		}
		w = impl.WldStep(w, []action{doing(0), doing(0), beginning, visiting, freeing(0)}[d.below(5)])
		for len(w.Net) > 0 {
			there := len(processed(w, 0))
			w = impl.WldStep(w, hearing(0))
			if h := w.Hosts[0]; len(processed(w, 0)) != there || len(h.Anti)+len(h.Keep) > 0 {
				t.Fatal(brief(w))
			}
		}
		if len(processed(w, 0)) < len(before) || steps > 1000 {
			t.Fatal(brief(w))
		}
	}
	if !slices.Equal(processed(w, 0), want) {
		t.Fatalf("%s\nnot %v", brief(w), want)
	}
}

// processed are the records of a host, committed or not.
func processed(w world, c int) []record {
	log := slices.Clone(w.Logs[c])
	for _, d := range w.Hosts[c].Done {
		log = append(log, record{Ev: d.It.Ev, S: d.S})
	}
	return log
}

// Goroutines and memory.

func TestNoGoroutineIsLeft(t *testing.T) {
	before := runtime.NumGoroutine()
	w := impl.WldNew(endless(4, 6), true)
	for i := range 300 {
		w = impl.WldStep(w, action{Kind: i % 7, At: i % 4})
		impl.WldRun(w, []action{doing(0), hearing(0), visiting})
		impl.WldCalm(w, i%3)
		impl.WldStep(world{}, doing(0))
	}
	// A goroutine that is joined may take a moment to end.
	for range 1000 {
		runtime.Gosched()
	}
	if after := runtime.NumGoroutine(); after > before+4 {
		t.Fatalf("%d goroutines, and %d before", after, before)
	}
}

func TestCallsAtTheSameTime(t *testing.T) {
	var all sync.WaitGroup
	for i, m := range manyModels()[:40] {
		want := impl.WldCalm(impl.WldNew(m, i%2 == 0), 10)
		start := impl.WldNew(m, i%2 == 0)
		for range 4 {
			all.Go(func() {
				if got := impl.WldCalm(start, 10); !same(got, want) {
					t.Errorf("%s\nnot\n%s", brief(got), brief(want))
				}
			})
		}
	}
	all.Wait()
}

func TestWorldsOwnTheirMemory(t *testing.T) {
	type input struct {
		W    world
		Acts []action
	}
	list := []world{{}, someWorld(), crossing(t), crowded(20), {Model: badModels()[3]}}
	list = append(list, strangeWorlds()[:10]...)
	d := &draw{at: 131}
	for i, m := range manyModels() {
		if i%10 == 0 {
			d.walk(m, i%20 == 0, anyOrder, d.below(60), func(_ world, _ action, next world) { list[0] = next })
			list = append(list, list[0])
			list[0] = world{}
		}
	}
	late := someWorld()
	late.Marks = late.Marks[1:]
	for _, w := range append(list, late) {
		checkOwned(t, "WldNew", w, func(w world) world { return impl.WldNew(w.Model, w.Lazy) })
		checkOwned(t, "WldOk", w, impl.WldOk)
		acts := manyActions(w)
		for _, a := range acts[len(acts)/9 : 2*len(acts)/3] {
			checkOwned(t, "WldStep", w, func(w world) world { return impl.WldStep(w, a) })
		}
		for _, n := range []int{0, 1, 5, 300, 301} {
			in := input{w, make([]action, n)}
			for i := range in.Acts {
				in.Acts[i] = d.action(world{Hosts: make([]host, 3), Net: make([]parcel, 2), Tok: token{On: true}}, anyOrder)
			}
			checkOwned(t, "WldRun", in, func(in input) world { return impl.WldRun(in.W, in.Acts) })
		}
		for _, n := range []int{-1, 0, 1, 20, 151} {
			checkOwned(t, "WldCalm", w, func(w world) world { return impl.WldCalm(w, n) })
		}
	}
}
