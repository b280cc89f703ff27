package tests

import (
	"fmt"
	"math"
	"slices"
	"testing"

	"loop.example/turnback/impl"
)

type saved = impl.Ckp

// saving is a host of which every so many states are to be saved.
type saving struct {
	Of    scene
	Every int
}

func savedAt(at int, c comp) saved {
	return saved{At: at, State: c}
}

// search is a list in which a saved state is to be found.
type search struct {
	List []saved
	At   int
}

// coast is what CkpBefore reconstructs a state from, and before which event.
type coast struct {
	M      model
	Events []event
	List   []saved
	At     int
}

// coasted is the state that is reconstructed, from how many events, and whether there is one.
type coasted struct {
	C  comp
	N  int
	Ok bool
}

func (s saving) run() []saved { return impl.CkpSave(s.Of.M, s.Of.Comp, s.Of.H, s.Every) }
func (s search) run() int     { return impl.CkpLast(s.List, s.At) }

func (c coast) run() coasted {
	state, n, ok := impl.CkpBefore(c.M, c.Events, c.List, c.At)
	return coasted{state, n, ok}
}

// String is what a failed test tells of coasting forward.
func (c coast) String() string {
	return fmt.Sprintf("before event %d of %v, from %v, in %v", c.At, c.Events, c.List, c.M)
}

// byDefinition is CkpSave as the document describes it.
func (s saving) byDefinition() []saved {
	if !okByDefinition(s.Of.M, s.Of.Comp, s.Of.H) || s.Every < 1 || s.Every > 50 {
		return nil
	}
	var list []saved
	for i, d := range s.Of.H.Done {
		if i%s.Every == 0 {
			list = append(list, saved{At: i, State: d.Before})
		}
	}
	return list
}

// byDefinition is CkpLast as the document describes it.
func (s search) byDefinition() int {
	last := -1
	for i, x := range s.List {
		if x.At <= s.At && (last == -1 || x.At >= s.List[last].At) {
			last = i
		}
	}
	return last
}

// byDefinition is CkpBefore as the document describes it.
func (c coast) byDefinition() coasted {
	last := search{c.List, c.At}.byDefinition()
	if !impl.MdlOk(c.M) || c.At < 0 || c.At > len(c.Events) || last == -1 {
		return coasted{}
	}
	from := c.List[last]
	if from.At < 0 || !impl.CmpOk(from.State) {
		return coasted{}
	}
	got := coasted{C: from.State, Ok: true}
	for ; from.At+got.N < c.At; got.N++ {
		e := c.Events[from.At+got.N]
		if !impl.CmpOk(got.C) || !impl.EvtOk(e, len(c.M.Rules)) || e.T > c.M.Until {
			return coasted{}
		}
		got.C, _ = impl.CmpDo(c.M, got.C, e)
	}
	return got
}

// doneEvents are the events of the processed items.
func doneEvents(h host) []event {
	list := []event{}
	for _, d := range h.Done {
		list = append(list, d.It.Ev)
	}
	return list
}

// stateBefore is the recorded state before the processed event with this index, or the current one behind the last one.
func stateBefore(h host, at int) comp {
	if at == len(h.Done) {
		return h.Now
	}
	return h.Done[at].Before
}

// before is the state of the host before the processed event with this index, from the states that were saved.
func (s saving) before(at int) coast {
	return coast{s.Of.M, doneEvents(s.Of.H), s.run(), at}
}

// longModel has components whose states differ from each other, which have a rule with sends, one without, and none for kind 2.
func longModel(many, until int) model {
	m := model{Until: until}
	for c := range many {
		m.Rules = append(m.Rules, []rule{
			{A: 2, B: 3, C: 5 + c, Sends: []send{{To: c, Delay: 1, Mod: 9, Rem: 4}, {To: 0, Delay: 9, Kind: 2, Mod: 8}}},
			{Kind: 1, A: 96, C: 1 + c},
		})
	}
	return m
}

// longScene is a host of the last component that has processed n events.
func longScene(many, until, n int) scene {
	s := scene{M: longModel(many, until), Comp: many - 1}
	for i := range n {
		e := event{T: i % (until + 1), To: many - 1, From: -1, Seq: i % 12, Kind: i * i % 3, Data: i % 97}
		s.H.Wait = append(s.H.Wait, numbered(e, 0))
	}
	slices.SortFunc(s.H.Wait, itemInOrder)
	return s.doAll()
}

// longScenes have processed up to a few more events than twice the greatest distance, with one component or four, and all at one time or not.
func longScenes() []scene {
	var list []scene
	for _, n := range []int{0, 1, 2, 3, 10, 49, 50, 51, 99, 100, 101, 103} {
		list = append(list, longScene(1, 0, n), longScene(1, 99, n), longScene(4, 20, n))
	}
	return list
}

// distances are some between saved states.
func distances() []int {
	return []int{1, 2, 3, 5, 50}
}

// manySavings are drawn hosts with some distances, and long hosts with all.
func manySavings() []saving {
	var list []saving
	for _, s := range manyScenes() {
		for _, n := range distances() {
			list = append(list, saving{s, n})
		}
	}
	for _, s := range longScenes() {
		for n := 1; n <= 50; n++ {
			list = append(list, saving{s, n})
		}
	}
	return list
}

// extremes are indices at which no event is.
func extremes() []int {
	return []int{math.MinInt, math.MinInt + 1, math.MinInt32, -100, -1, math.MaxInt32, math.MaxInt - 1, math.MaxInt}
}

// search draws a list of any order, in which many saved states have the same At.
func (d *draw) search() search {
	s := search{At: d.between(-4, 12)}
	for i := range d.below(9) {
		x := saved{At: d.between(-3, 10), State: comp{S: i}}
		if d.below(9) == 0 {
			x.At = extremes()[d.below(8)]
		}
		s.List = append(s.List, x)
	}
	switch d.below(4) {
	case 0:
		slices.SortStableFunc(s.List, func(a, b saved) int { return compareAt(a, b) })
	case 1:
		slices.SortStableFunc(s.List, func(a, b saved) int { return compareAt(b, a) })
	}
	if d.below(9) == 0 {
		s.At = extremes()[d.below(8)]
	}
	return s
}

func compareAt(a, b saved) int {
	switch {
	case a.At < b.At:
		return -1
	case a.At > b.At:
		return 1
	}
	return 0
}

// manySearches are drawn lists.
func manySearches() []search {
	d := &draw{at: 601}
	var list []search
	for range 20000 {
		list = append(list, d.search())
	}
	return list
}

// coast draws events that a component need not have processed, and saved states, most of which are none of them; now and then one is invalid.
func (d *draw) coast(m model) coast {
	c := coast{M: m}
	for range d.below(9) {
		c.Events = append(c.Events, d.event(m))
	}
	n := len(c.Events)
	if n > 0 && d.below(3) == 0 {
		c.Events[d.below(n)] = with(d.event(m), fields()[d.below(6)], []int{-2, 97, 100}[d.below(3)])
	}
	for range d.below(6) {
		x := saved{At: d.between(-1, n+1), State: d.undo(m).C}
		switch d.below(20) {
		case 0:
			x.State.S = 97
		case 1:
			x.State.Seq = 13
		case 2:
			x.State.Count = -1
		case 3:
			x.State.Count = math.MaxInt
		}
		c.List = append(c.List, x)
	}
	c.At = d.between(-1, n+1)
	return c
}

// manyCoasts are drawn ones in every model.
func manyCoasts(seed uint64, each int) []coast {
	d := &draw{at: seed}
	var list []coast
	for _, m := range manyModels() {
		for range each {
			list = append(list, d.coast(m))
		}
	}
	return list
}

func TestManySavingsAreValidAndVaried(t *testing.T) {
	n := map[string]int{}
	for _, s := range manySavings() {
		if !okByDefinition(s.Of.M, s.Of.Comp, s.Of.H) {
			t.Fatal(s)
		}
		done := len(s.Of.H.Done)
		for name, is := range map[string]bool{
			"nothing processed":       done == 0,
			"one event":               done == 1,
			"one less than every":     done > 0 && done == s.Every-1,
			"exactly every":           done == s.Every,
			"one more than every":     done == s.Every+1,
			"several saved states":    done > 2*s.Every,
			"all states":              s.Every == 1 && done > 1,
			"every at 50":             s.Every == 50 && done > 0,
			"not the first events":    done > 0 && s.Of.H.Done[0].Before.Count > 0,
			"SeqMost is reached":      done > 1 && s.Of.H.Done[done-1].Before.Seq == 12,
			"the end is at 0":         s.Of.M.Until == 0 && done > 0,
			"the end is at TimTop":    s.Of.M.Until == 99 && done > 0,
			"one component":           len(s.Of.M.Rules) == 1 && done > 0,
			"as many as there may be": len(s.Of.M.Rules) == 4 && done > 0,
			"kept items":              len(s.Of.H.Keep) > 0 && done > 0,
		} {
			if is {
				n[name]++
			}
		}
	}
	checkVaried(t, n, 15, 50)
}

// checkVaried fails unless all features are there, and each of them often.
func checkVaried(t *testing.T, n map[string]int, many, often int) {
	t.Helper()
	if len(n) != many {
		t.Fatalf("%d of %d: %v", len(n), many, n)
	}
	for name, times := range n {
		if times < often {
			t.Errorf("%s: only %d times", name, times)
		}
	}
}

func TestManySearchesAreVaried(t *testing.T) {
	n := map[string]int{}
	for _, s := range manySearches() {
		at := s.byDefinition()
		same := 0
		for _, x := range s.List {
			if at >= 0 && x.At == s.List[at].At {
				same++
			}
		}
		for name, is := range map[string]bool{
			"an empty list":   len(s.List) == 0,
			"none":            at == -1 && len(s.List) > 0,
			"the index":       at >= 0 && s.List[at].At == s.At,
			"behind it":       at >= 0 && s.List[at].At < s.At,
			"several":         same > 1,
			"a negative At":   at >= 0 && s.List[at].At < 0,
			"in order":        len(s.List) > 2 && slices.IsSortedFunc(s.List, compareAt),
			"not in order":    !slices.IsSortedFunc(s.List, compareAt),
			"the last one":    len(s.List) > 2 && at == len(s.List)-1,
			"not the last":    at >= 0 && at < len(s.List)-1,
			"At is far below": at >= 0 && s.List[at].At < -9,
		} {
			if is {
				n[name]++
			}
		}
	}
	checkVaried(t, n, 11, 200)
}

func TestManyCoastsAreVaried(t *testing.T) {
	n := map[string]int{}
	for _, c := range manyCoasts(607, 60) {
		got := c.byDefinition()
		last := search{c.List, c.At}.byDefinition()
		inside := c.At >= 0 && c.At <= len(c.Events)
		some := inside && last >= 0 && c.List[last].At >= 0
		for name, is := range map[string]bool{
			"true":                          got.Ok,
			"nothing to process":            got.Ok && got.N == 0,
			"several events":                got.Ok && got.N > 2,
			"no such index":                 !inside,
			"behind the last event":         got.Ok && c.At == len(c.Events),
			"no saved state":                inside && last == -1,
			"a negative At":                 inside && last >= 0 && c.List[last].At < 0,
			"an invalid state":              some && !impl.CmpOk(c.List[last].State),
			"an event that is not possible": some && impl.CmpOk(c.List[last].State) && !got.Ok,
		} {
			if is {
				n[name]++
			}
		}
	}
	checkVaried(t, n, 9, 100)
}
