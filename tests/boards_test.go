package tests

import (
	"fmt"
	"math"
	"slices"
	"strings"
	"testing"

	"loop.example/turnback/impl"
)

// boardByDefinition is DskBoard as the document describes it.
func boardByDefinition(w world) []string {
	if !worldByDefinition(w) {
		return nil
	}
	var list []string
	for _, r := range inRecordOrder(slices.Concat(w.Logs...)) {
		list = append(list, textByRecord(r))
	}
	list = append(list, fmt.Sprintf("bound %d on its way %d", w.Bound, len(w.Net)))
	for c, h := range w.Hosts {
		list = append(list, fmt.Sprintf("host %d done %d waits %d called off %d kept %d", c, len(h.Done), len(h.Wait), len(h.Anti), len(h.Keep)))
	}
	return list
}

// input is what DskRun gets.
type input struct {
	M     model
	Lazy  bool
	Lines []string
	Calm  int
}

func (x input) run() []string {
	return impl.DskRun(x.M, x.Lazy, x.Lines, x.Calm)
}

// outputByDefinition is DskRun as the document describes it.
func outputByDefinition(x input, actions map[string]action) []string {
	if !impl.MdlOk(x.M) {
		return []string{"model"}
	}
	if len(x.Lines) > 120 || x.Calm > 150 {
		return []string{"long"}
	}
	var list []string
	w := plain(impl.WldNew(x.M, x.Lazy))
	for i, s := range x.Lines {
		if a, ok := actions[s]; ok {
			act(&w, a)
		} else {
			list = append(list, fmt.Sprintf("line %d", i+1))
		}
	}
	for range max(0, x.Calm) {
		w = runByDefinition(w, calmByDefinition(w))
	}
	return append(list, boardByDefinition(w)...)
}

// checkLines fails unless the result is these lines.
func checkLines(t *testing.T, what any, got []string, want ...string) {
	t.Helper()
	if !slices.Equal(got, want) {
		t.Errorf("%q\nis told of %v, not\n%q", got, what, want)
	}
}

// Boards.

// checkBoard fails unless the board of a simulation, valid or not, is as the document describes it.
func checkBoard(t *testing.T, w world) {
	t.Helper()
	if got, want := impl.DskBoard(w), boardByDefinition(w); !slices.Equal(got, want) {
		t.Fatalf("%q\nis the board, not\n%q\nof\n%s", got, want, brief(w))
	}
}

func TestBoardsAreAsDefined(t *testing.T) {
	manyWalks(191, 100, func(_ world, _ action, w world) { checkBoard(t, w) })
	for _, w := range append(strangeWorlds(), completedWorlds()...) {
		checkBoard(t, w)
	}
	d := &draw{at: 193}
	counts := map[bool]int{}
	for range 1000 {
		w := someWorld()
		d.change(&w)
		checkBoard(t, w)
		counts[worldByDefinition(w)]++
	}
	if counts[true] < 100 || counts[false] < 100 {
		t.Fatal(counts)
	}
}

func TestBoardOfASimulationThatHasDoneNothing(t *testing.T) {
	for _, lazy := range []bool{false, true} {
		checkLines(t, "the example", impl.DskBoard(impl.WldNew(exampleModel(), lazy)),
			"bound 0 on its way 0",
			"host 0 done 0 waits 1 called off 0 kept 0",
			"host 1 done 0 waits 0 called off 0 kept 0")
		checkLines(t, "one component", impl.DskBoard(impl.WldNew(plainModel(1, 0), lazy)),
			"bound 0 on its way 0",
			"host 0 done 0 waits 0 called off 0 kept 0")
		checkLines(t, "four components", impl.DskBoard(impl.WldNew(endless(4, 6), lazy)),
			"bound 0 on its way 0",
			"host 0 done 0 waits 6 called off 0 kept 0",
			"host 1 done 0 waits 0 called off 0 kept 0",
			"host 2 done 0 waits 0 called off 0 kept 0",
			"host 3 done 0 waits 0 called off 0 kept 0")
	}
}

func TestBoardWithMessagesOnTheWay(t *testing.T) {
	w := impl.WldStep(impl.WldNew(exampleModel(), false), doing(0))
	checkLines(t, "one message", impl.DskBoard(w),
		"bound 0 on its way 1",
		"host 0 done 1 waits 0 called off 0 kept 0",
		"host 1 done 0 waits 0 called off 0 kept 0")
	w = impl.WldStep(crossing(t), hearing(1))
	checkLines(t, "an anti-message that has overtaken its item", impl.DskBoard(w),
		"bound 0 on its way 1",
		"host 0 done 2 waits 0 called off 1 kept 0",
		"host 1 done 0 waits 2 called off 0 kept 0")
	w = impl.WldRun(keeping(t), []action{hearing(0), beginning, visiting, visiting, visiting, freeing(2)})
	checkLines(t, "a kept item", impl.DskBoard(w),
		"at 0 to 2 from - kind 0 data 0 then 0",
		"bound 4 on its way 0",
		"host 0 done 2 waits 0 called off 0 kept 0",
		"host 1 done 0 waits 1 called off 0 kept 1",
		"host 2 done 1 waits 0 called off 0 kept 0")
}

func TestBoardTellsEveryNumber(t *testing.T) {
	w := someWorld()
	w.Hosts[0].Anti, w.Hosts[0].Keep = w.Hosts[0].Anti[:1], w.Hosts[0].Keep[:2]
	checkLines(t, brief(w), impl.DskBoard(w),
		"at 0 to 0 from - kind 0 data 4 then 27",
		"at 1 to 2 from 1 kind 2 data 96 then 0",
		"at 3 to 0 from 2 kind 0 data 0 then 96",
		"bound 4 on its way 8",
		"host 0 done 3 waits 4 called off 1 kept 2",
		"host 1 done 1 waits 1 called off 0 kept 0",
		"host 2 done 2 waits 0 called off 0 kept 0")
	w = crowded(1500)
	for i := range 120 {
		w.Hosts[1].Anti = append(w.Hosts[1].Anti, numbered(event{T: i % 20, To: 1, From: 2}, i))
		w.Hosts[2].Wait = append(w.Hosts[2].Wait, numbered(event{T: 20, To: 2, From: 2, Seq: 3}, i))
	}
	slices.SortFunc(w.Hosts[1].Anti, itemInOrder)
	checkLines(t, "many messages", impl.DskBoard(w)[3:],
		"bound 4 on its way 1500",
		"host 0 done 3 waits 4 called off 3 kept 4",
		"host 1 done 1 waits 1 called off 120 kept 0",
		"host 2 done 2 waits 120 called off 0 kept 0")
}

func TestBoardOfACompletedSimulation(t *testing.T) {
	checkLines(t, "the example", impl.DskBoard(finished(exampleModel(), true)),
		"at 0 to 0 from - kind 0 data 0 then 1",
		"at 3 to 1 from 0 kind 0 data 1 then 1",
		"at 5 to 0 from 1 kind 0 data 1 then 2",
		"at 8 to 1 from 0 kind 0 data 2 then 2",
		"at 10 to 0 from 1 kind 0 data 2 then 3",
		"bound 11 on its way 0",
		"host 0 done 0 waits 0 called off 0 kept 0",
		"host 1 done 0 waits 0 called off 0 kept 0")
	checkLines(t, "no events", impl.DskBoard(finished(plainModel(1, 99), false)),
		"bound 100 on its way 0",
		"host 0 done 0 waits 0 called off 0 kept 0")
}

func TestBoardsOfInvalidSimulations(t *testing.T) {
	checkLines(t, "nothing", impl.DskBoard(world{}))
	for name, changes := range spoils() {
		for i, change := range changes {
			for _, w := range []world{someWorld(), finished(someModel(), true), impl.WldNew(someModel(), false)} {
				change(&w)
				checkLines(t, fmt.Sprintf("%s: change %d", name, i), impl.DskBoard(w))
			}
		}
	}
	for _, m := range badModels() {
		w := finished(someModel(), false)
		w.Model = m
		checkLines(t, m, impl.DskBoard(w))
		checkLines(t, m, impl.DskBoard(world{Model: m}))
	}
	checkLines(t, "1501 messages", impl.DskBoard(crowded(1501)))
}

// Promise 67.

func TestBoardsHaveALineForEverything(t *testing.T) {
	check := func(w world) {
		board, log := impl.DskBoard(w), impl.VueLog(w)
		if !impl.WldOk(w) {
			checkLines(t, brief(w), board)
			return
		}
		if len(board) != len(slices.Concat(w.Logs...))+1+len(w.Hosts) {
			t.Fatalf("%q is the board of\n%s", board, brief(w))
		}
		for i, s := range board {
			switch at := i - len(log) - 1; {
			case at < -1 && s != impl.RecText(log[i]),
				at == -1 && !strings.HasPrefix(s, "bound "),
				at >= 0 && !strings.HasPrefix(s, fmt.Sprintf("host %d done ", at)):
				t.Fatalf("%q is line %d of the board of\n%s", s, i, brief(w))
			}
		}
	}
	manyWalks(197, 100, func(_ world, _ action, w world) { check(w) })
	for _, m := range append(manyModels(), smallModels()...) {
		check(finished(m, false))
	}
	d := &draw{at: 199}
	for range 500 {
		w := someWorld()
		d.change(&w)
		check(w)
	}
}

// Running lines.

// checkOutput fails unless DskRun of the input is as the document describes it.
func checkOutput(t *testing.T, x input) {
	t.Helper()
	if got, want := x.run(), outputByDefinition(x, actionLines()); !slices.Equal(got, want) {
		t.Fatalf("%q\nis told of %v, not\n%q", got, x, want)
	}
}

func TestRunningLines(t *testing.T) {
	for _, x := range []struct {
		lines []string
		want  []string
	}{
		{nil, []string{"bound 0 on its way 0", "host 0 done 0 waits 2 called off 0 kept 0", "host 1 done 0 waits 0 called off 0 kept 0"}},
		{[]string{"do 0", "halt"}, []string{"line 2", "bound 0 on its way 1", "host 0 done 1 waits 1 called off 0 kept 0", "host 1 done 0 waits 0 called off 0 kept 0"}},
		{
			[]string{"", "do 0", "do 0 ", "DO 0", "do 0", "hear 1", "do 01"},
			[]string{"line 1", "line 3", "line 4", "line 7", "bound 0 on its way 1", "host 0 done 2 waits 0 called off 0 kept 0", "host 1 done 0 waits 1 called off 0 kept 0"},
		},
		{
			[]string{"do 0", "begin", "visit", "visit", "free 0"},
			[]string{"bound 0 on its way 1", "host 0 done 1 waits 1 called off 0 kept 0", "host 1 done 0 waits 0 called off 0 kept 0"},
		},
		{
			[]string{"do 0", "hear 0", "begin", "visit", "visit", "free 0", "x"},
			[]string{"line 7", "at 1 to 0 from - kind 0 data 5 then 6", "bound 2 on its way 0", "host 0 done 0 waits 1 called off 0 kept 0", "host 1 done 0 waits 1 called off 0 kept 0"},
		},
	} {
		for _, lazy := range []bool{false, true} {
			in := input{crossing(t).Model, lazy, x.lines, 0}
			checkLines(t, in, in.run(), x.want...)
			checkOutput(t, in)
		}
	}
}

func TestRunningCalmRounds(t *testing.T) {
	fresh := []string{"bound 0 on its way 0", "host 0 done 0 waits 1 called off 0 kept 0", "host 1 done 0 waits 0 called off 0 kept 0"}
	complete := []string{
		"at 0 to 0 from - kind 0 data 0 then 1",
		"at 3 to 1 from 0 kind 0 data 1 then 1",
		"at 5 to 0 from 1 kind 0 data 1 then 2",
		"at 8 to 1 from 0 kind 0 data 2 then 2",
		"at 10 to 0 from 1 kind 0 data 2 then 3",
		"bound 11 on its way 0",
		"host 0 done 0 waits 0 called off 0 kept 0",
		"host 1 done 0 waits 0 called off 0 kept 0",
	}
	for calm, want := range map[int][]string{
		math.MinInt: fresh,
		-1:          fresh,
		0:           fresh,
		1:           {"bound 0 on its way 1", "host 0 done 1 waits 0 called off 0 kept 0", "host 1 done 0 waits 0 called off 0 kept 0"},
		2: {
			"at 0 to 0 from - kind 0 data 0 then 1",
			"at 3 to 1 from 0 kind 0 data 1 then 1",
			"bound 5 on its way 1",
			"host 0 done 0 waits 0 called off 0 kept 0",
			"host 1 done 0 waits 0 called off 0 kept 0",
		},
		149: complete,
		150: complete,
	} {
		for _, lazy := range []bool{false, true} {
			checkLines(t, calm, impl.DskRun(exampleModel(), lazy, nil, calm), want...)
			checkLines(t, calm, impl.DskRun(exampleModel(), lazy, []string{"go"}, calm), append([]string{"line 1"}, want...)...)
		}
	}
}

// repeated are n lines.
func repeated(n int, lines ...string) []string {
	var list []string
	for i := range n {
		list = append(list, lines[i%len(lines)])
	}
	return list
}

func TestTooManyLinesAndRounds(t *testing.T) {
	for _, m := range smallModels() {
		for _, line := range []string{"do 0", "begin", "hear 999", "halt", ""} {
			for i, n := range []int{119, 120, 121, 122, 500} {
				for _, calm := range []int{-1, 0, 1, 150, 151, math.MaxInt} {
					in := input{m, i%2 == 0, repeated(n, line), calm}
					got := in.run()
					if long := n > 120 || calm > 150; long != slices.Equal(got, []string{"long"}) {
						t.Errorf("%d lines, %d rounds: %q", n, calm, got)
					}
				}
			}
		}
	}
	// As many lines as are permitted, the last of which still counts.
	m := plainModel(1, 10)
	for i := range 6 {
		m.Starts = append(m.Starts, event{From: -1, Seq: i})
	}
	for n, want := range map[int]int{119: 5, 120: 6} {
		checkLines(t, n, impl.DskRun(m, false, append(repeated(114, "visit"), repeated(n-114, "do 0")...), 0),
			"bound 0 on its way 0", fmt.Sprintf("host 0 done %d waits %d called off 0 kept 0", want, 6-want))
	}
}

func TestRunningLinesOfInvalidModels(t *testing.T) {
	for _, m := range badModels() {
		for _, lines := range [][]string{nil, {"do 0"}, {"halt"}, repeated(120, ""), repeated(121, "do 0"), repeated(300, "halt")} {
			for _, calm := range []int{math.MinInt, 0, 1, 150, 151, math.MaxInt} {
				for _, lazy := range []bool{false, true} {
					checkLines(t, m, impl.DskRun(m, lazy, lines, calm), "model")
				}
			}
		}
	}
}

func TestLinesThatAreAllNoActions(t *testing.T) {
	lines := strayLines()
	for _, m := range smallModels() {
		for from := 0; from < len(lines); from += 120 {
			part := lines[from:min(from+120, len(lines))]
			var want []string
			for n := range part {
				want = append(want, fmt.Sprintf("line %d", n+1))
			}
			want = append(want, impl.DskBoard(impl.WldNew(m, true))...)
			checkLines(t, part, impl.DskRun(m, true, part, 0), want...)
		}
	}
	got := impl.DskRun(exampleModel(), false, repeated(120, "halt"), 0)
	if len(got) != 123 || got[0] != "line 1" || got[9] != "line 10" || got[119] != "line 120" || got[120] != "bound 0 on its way 0" {
		t.Errorf("%q", got)
	}
}

// An action whose condition is not met is no stray line.
func TestLinesWithoutEffect(t *testing.T) {
	for _, m := range smallModels() {
		for _, lazy := range []bool{false, true} {
			lines := []string{"do 4", "do 999", "hear 0", "hear 1", "hear 999", "visit", "free 0", "free 3", "free 4", "free 999", "do 10"}
			checkLines(t, lines, impl.DskRun(m, lazy, lines, 0), impl.DskBoard(impl.WldNew(m, lazy))...)
		}
	}
}

// With lazy cancellation what was sent is kept, otherwise it is called off.
func TestRunningLinesOfBothStrategies(t *testing.T) {
	m := crossing(t).Model
	m.Starts[1] = event{T: 4, To: 1, From: -1, Kind: 1}
	lines := []string{"do 1", "do 0", "hear 1"}
	checkLines(t, "aggressive", impl.DskRun(m, false, lines, 0),
		"bound 0 on its way 2",
		"host 0 done 1 waits 0 called off 0 kept 0",
		"host 1 done 0 waits 2 called off 0 kept 0")
	checkLines(t, "lazy", impl.DskRun(m, true, lines, 0),
		"bound 0 on its way 1",
		"host 0 done 1 waits 0 called off 0 kept 0",
		"host 1 done 0 waits 2 called off 0 kept 1")
}

// lines draws lines for a model. They are made from actions that suit a simulation, so that most of them have effects; some are none.
func (d *draw) lines(m model, lazy bool, n int) []string {
	stray := strayLines()
	w := impl.WldNew(m, lazy)
	var list []string
	for range n {
		a := d.action(w, anyOrder)
		s := textByDefinition(a)
		if s == "" || d.below(12) == 0 {
			list = append(list, stray[d.below(len(stray))])
			continue
		}
		w = impl.WldStep(w, a)
		list = append(list, s)
	}
	return list
}

func TestDskRunIsAsDefined(t *testing.T) {
	d := &draw{at: 211}
	kept := 0
	for i, m := range append(manyModels(), smallModels()...) {
		for _, lazy := range []bool{false, true} {
			n := []int{0, 1, 10, 60, 119, 120}[i%6]
			in := input{m, lazy, d.lines(m, lazy, n), []int{-1, 0, 0, 0, 1, 2, 3, 20}[d.below(8)]}
			checkOutput(t, in)
			if s := strings.Join(in.run(), "\n"); strings.Contains(s, "kept 1") || strings.Contains(s, "kept 2") {
				kept++
			}
		}
	}
	if kept == 0 {
		t.Fatal("nothing is ever kept")
	}
}

// Promise 68.

func TestRunningLinesExecutesTheirActions(t *testing.T) {
	d := &draw{at: 223}
	for i, m := range append(manyModels(), smallModels()...) {
		lazy, calm := i%2 == 0, []int{-1, 0, 1, 5, 140, 150}[d.below(6)]
		w := impl.WldNew(m, lazy)
		var acts, stray []string
		mixed := d.lines(m, lazy, 120)
		for n, s := range mixed {
			if a, ok := impl.DskRead(s); ok {
				acts = append(acts, s)
				w = impl.WldStep(w, a)
			} else {
				stray = append(stray, fmt.Sprintf("line %d", n+1))
			}
		}
		board := impl.DskBoard(impl.WldCalm(w, calm))
		checkLines(t, acts, impl.DskRun(m, lazy, acts, calm), board...)
		checkLines(t, mixed, impl.DskRun(m, lazy, mixed, calm), append(stray, board...)...)
		if len(acts) == 0 || len(acts) == 120 || len(board) == 0 {
			t.Fatalf("%d of 120 lines are actions: %q", len(acts), board)
		}
	}
}

// Memory.

func TestTheTextInterfaceOwnsItsMemory(t *testing.T) {
	late := someWorld()
	late.Marks = late.Marks[1:]
	worlds := []world{{}, someWorld(), late, crossing(t), keeping(t), crowded(20), crowded(1501), {Model: badModels()[3]}, finished(someModel(), true)}
	for _, w := range append(worlds, strangeWorlds()[:10]...) {
		checkOwned(t, "DskBoard", w, impl.DskBoard)
	}
	d := &draw{at: 227}
	inputs := []input{
		{}, {Calm: 151}, {M: badModels()[7], Lines: repeated(121, "do 0")},
		{someModel(), true, nil, 0}, {someModel(), false, nil, 151}, {someModel(), false, repeated(121, "do 0", ""), 0},
		{someModel(), true, repeated(120, "halt"), -1}, {someModel(), true, repeated(120, "do 0", "hear 0", "begin", "visit"), 150},
	}
	for _, m := range smallModels() {
		for n, calm := range []int{0, 3, 40} {
			inputs = append(inputs, input{m, n%2 == 0, d.lines(m, n%2 == 0, 40*n), calm})
		}
	}
	for _, x := range inputs {
		checkOwned(t, "DskRun", x, input.run)
	}
	for _, r := range someRecords() {
		checkOwned(t, "RecText", r, impl.RecText)
	}
	for s, a := range actionLines() {
		checkOwned(t, "DskText", a, impl.DskText)
		checkOwned(t, "DskRead", s, func(s string) action { a, _ := impl.DskRead(s); return a })
	}
}
