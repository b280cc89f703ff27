package tests

import (
	"slices"
	"testing"

	"loop.example/turnback/impl"
)

// draw makes the same numbers in every run, so that a test that fails can be repeated.
type draw struct {
	at uint64
}

// below is a number in 0..n-1. The low bits of the sequence repeat soon, so that the high ones are used.
func (d *draw) below(n int) int {
	d.at = d.at*6364136223846793005 + 1442695040888963407
	return int(d.at >> 33 % uint64(n))
}

// between is a number in low..high.
func (d *draw) between(low, high int) int {
	return low + d.below(high-low+1)
}

// model makes a valid model in which most events cause others.
func (d *draw) model(many, starts, until int) model {
	m := model{Until: until}
	for range many {
		m.Rules = append(m.Rules, d.rules(many))
	}
	for len(m.Starts) < starts {
		e := event{T: min(d.below(until+1), d.below(until+1)), To: d.below(many), From: -1, Seq: d.below(12), Kind: d.below(3), Data: d.below(97)}
		if !slices.Contains(m.Starts, e) {
			m.Starts = impl.EvtPut(m.Starts, e)
		}
	}
	return m
}

func (d *draw) rules(many int) []rule {
	list := []rule{}
	for kind := range 3 {
		if d.below(12) == 0 {
			continue
		}
		r := rule{Kind: kind, A: d.below(97), B: d.below(97), C: d.below(97)}
		for range min(2, d.below(6)) {
			r.Sends = append(r.Sends, d.send(many))
		}
		list = append(list, r)
	}
	return list
}

func (d *draw) send(many int) send {
	mod := d.between(1, 9)/8 + 1
	return send{To: d.below(many), Delay: min(d.between(1, 9), d.between(1, 9)), Kind: d.below(3), Plus: d.below(97), Mod: mod, Rem: d.below(mod)}
}

// manyModels are valid models with every number of components and of external events, and ends between 0 and TimTop.
func manyModels() []model {
	d := &draw{at: 7}
	list := []model{someModel(), endless(1, 0), endless(1, 6), endless(4, 1), endless(4, 6)}
	for many := 1; many <= 4; many++ {
		for starts := range 7 {
			for _, until := range []int{0, 1, 7, 20, 50, 99} {
				list = append(list, d.model(many, starts, until))
			}
		}
	}
	return list
}

// endless is a model in which every component sends on whatever it receives, to itself and to the next one, until it has sent SeqMost.
func endless(many, starts int) model {
	m := model{Until: 99}
	for c := range many {
		sends := []send{{To: c, Delay: 1, Mod: 1}, {To: (c + 1) % many, Delay: 1, Plus: 1, Mod: 1}}
		m.Rules = append(m.Rules, []rule{{A: 2, B: 3, C: c, Sends: sends}})
	}
	for i := range starts {
		m.Starts = append(m.Starts, event{To: 0, From: -1, Seq: i, Data: i})
	}
	return m
}

func TestManyModelsAreValid(t *testing.T) {
	busy := 0
	for _, m := range manyModels() {
		if !impl.MdlOk(m) {
			t.Fatal(m)
		}
		if len(impl.SeqAll(m).Log) > len(m.Starts)+3 {
			busy++
		}
	}
	// A third of them has no external event, or ends too early for more events.
	if len(manyModels()) != 173 || busy < 70 {
		t.Fatalf("%d models, of which %d have many internal events", len(manyModels()), busy)
	}
}
