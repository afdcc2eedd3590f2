package coherent_test

import (
	"testing"

	"coherent/api"
	"coherent/coherent"
)

// configs are all machines that there are.
func configs() []api.Config {
	var all []api.Config
	for n := range 4 * 4 * 4 * 2 * 4 * 4 * 5 {
		c := api.Config{}
		c.Cores, n = 1+n%4, n/4
		c.Sets, n = sizes[n%4], n/4
		c.Ways, n = sizes[n%4], n/4
		c.Policy, n = n%2, n/2
		c.LastSets, n = sizes[n%4], n/4
		c.LastWays, n = sizes[n%4], n/4
		c.LastPolicy = n
		all = append(all, c)
	}
	return all
}

// player makes each call of a machine and of its model, and holds them against one another.
type player struct {
	machine *coherent.Machine
	model   *modelMachine
	lines   int // only lines below this one are loaded
	last    int // the last value that was stored
}

func newPlayer(t *testing.T, c api.Config, lines int) *player {
	t.Helper()
	return &player{machine: newMachine(t, c), model: newModelMachine(c), lines: lines}
}

func (p *player) load(t *testing.T, core int, addr int) {
	t.Helper()
	value, place := p.model.load(core, addr)
	wantLoad(t, p.machine, core, addr, value, place)
}

func (p *player) evict(t *testing.T, core int, line int) {
	t.Helper()
	p.model.evict(core, line)
	evict(t, p.machine, core, line)
}

// store lays in a value that was never stored before, so that an old one is told from it.
func (p *player) store(t *testing.T, core int, addr int) {
	t.Helper()
	p.last++
	place := p.model.store(core, addr, p.last)
	wantStore(t, p.machine, core, addr, p.last, place)
}

func (p *player) drain(t *testing.T) {
	t.Helper()
	p.model.drain()
	drain(t, p.machine)
}

// compare holds all that can be asked against the model, and the rules of P5.
func (p *player) compare(t *testing.T) {
	t.Helper()
	for line := range p.lines {
		holders, own := 0, 0
		for core := range p.model.config.Cores {
			state := p.model.state(core, line)
			if got, e := p.machine.State(core, line); got != state || e != api.OK {
				t.Errorf("P9: State(%d, %d) = %d, %d, want %d, OK", core, line, got, e, state)
			}
			if state != api.None {
				holders++
			}
			if state == api.Alone || state == api.Dirty {
				own++
			}
		}
		last := p.model.lastState(line)
		if got, e := p.machine.Last(line); got != last || e != api.OK {
			t.Errorf("P9: Last(%d) = %d, %d, want %d, OK", line, got, e, last)
		}
		if own > 0 && holders > 1 || holders > 0 && last == api.Away {
			t.Errorf("P5: line %d: %d cores hold it, %d for themselves, Last is %d", line, holders, own, last)
		}
		for word := range api.Words {
			want := p.model.memory[line][word]
			if got, e := p.machine.Memory(4*line + word); got != want || e != api.OK {
				t.Errorf("P9: Memory(%d) = %d, %d, want %d, OK", 4*line+word, got, e, want)
			}
		}
	}
	counts := p.model.counts
	counts.Psel = p.model.last.psel
	wantCounts(t, p.machine, counts)
}

// Every row of 4 calls, of 2 cores and 3 lines or 3 cores and 2 lines, in small machines, and a drain behind it. (As a drain may come first, that is every shorter row too.)
func TestAllShortPlays(t *testing.T) {
	const length = 4
	const kinds = 3*2*3 + 1
	for _, c := range []api.Config{oneSet(2, 1, 2), oneSet(2, 2, 2), oneSet(3, 1, 1), oneSet(3, 1, 2)} {
		lines := 6 / c.Cores
		for n := range kinds * kinds * kinds * kinds {
			p := newPlayer(t, c, lines)
			for range length {
				p.step(t, n%kinds, c.Cores, lines)
				n = n / kinds
			}
			p.compare(t)
			p.drain(t)
			p.compare(t)
			if t.Failed() {
				t.Fatalf("machine %+v", c)
			}
		}
	}
}

// step makes the call of this number: a load, an evict or a store of a core and a line, or a drain.
func (p *player) step(t *testing.T, number int, cores int, lines int) {
	t.Helper()
	if number == 3*cores*lines {
		p.drain(t)
		return
	}
	core, line, kind := number%cores, number/cores%lines, number/cores/lines
	switch kind {
	case 0:
		p.load(t, core, 4*line)
	case 1:
		p.evict(t, core, line)
	case 2:
		p.store(t, core, 4*line)
	}
}

// dice is a fixed rule that scatters numbers.
type dice struct{ seed uint32 }

func (d *dice) below(n int) int {
	d.seed = d.seed*1664525 + 1013904223
	return int(d.seed>>16) % n
}

// roll makes some call: of 200 so many are stores, most others loads, drains but seldom.
func (p *player) roll(t *testing.T, d *dice, stores int) {
	t.Helper()
	core, addr := d.below(p.model.config.Cores), d.below(4*p.lines)
	kind := d.below(200)
	switch {
	case kind == 0:
		p.drain(t)
	case kind < 20:
		p.evict(t, core, addr/4)
	case kind < 20+stores:
		p.store(t, core, addr)
	default:
		p.load(t, core, addr)
	}
}

// Some calls in every machine that there is.
func TestPlayEveryMachine(t *testing.T) {
	d := &dice{seed: 7}
	for n, c := range configs() {
		p := newPlayer(t, c, c.LastSets*c.LastWays+2)
		p.lines = min(p.lines, api.Lines)
		for range 40 {
			p.roll(t, d, 60*(n%3))
		}
		p.compare(t)
		if t.Failed() || !coherent.Agrees(p.machine) {
			t.Fatalf("machine %+v: agrees: %v", c, coherent.Agrees(p.machine))
		}
	}
}

// Long rows of calls, of few lines and of all, each step compared.
func TestLongPlays(t *testing.T) {
	d := &dice{seed: 11}
	all := configs()
	for round := range 600 {
		c := all[round*6197%len(all)]
		lines := min(api.Lines, c.LastSets*c.LastWays*(1+round%3)+1)
		p := newPlayer(t, c, lines)
		for range 500 {
			p.roll(t, d, 60*(round/4%4))
			p.compare(t)
			if t.Failed() {
				t.Fatalf("machine %+v", c)
			}
		}
		if !coherent.Agrees(p.machine) {
			t.Fatalf("machine %+v: the ways hold other lines than the states say", c)
		}
	}
}

// Long rows of calls in dueling machines, most of them in the sets that are in no duel.
func TestLongDuels(t *testing.T) {
	d := &dice{seed: 13}
	for round := range 40 {
		c := api.Config{Cores: 1 + round%4, Sets: 1, Ways: 1, LastSets: sizes[round/4%4], LastWays: sizes[round/2%4], LastPolicy: api.Dueling}
		p := newPlayer(t, c, api.Lines)
		for range 2000 {
			line := d.below(api.Lines / (1 + round%2))
			if line%4 < 2 && d.below(3) > 0 {
				line = line | 2
			}
			p.load(t, d.below(c.Cores), 4*line)
			wantPsel(t, p.machine, p.model.last.psel)
		}
		p.compare(t)
		if t.Failed() {
			t.Fatalf("machine %+v", c)
		}
	}
}
