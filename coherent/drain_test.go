package coherent_test

import (
	"slices"
	"testing"

	"coherent/api"
	"coherent/coherent"
)

func TestDrainOfAnEmptyMachine(t *testing.T) {
	for _, policy := range []int{api.Oldest, api.Dueling} {
		c := oneSet(2, 1, 1)
		c.LastPolicy = policy
		m := newMachine(t, c)
		fresh := *m
		drain(t, m)
		drain(t, m)
		if *m != fresh {
			t.Error("P10: Drain changed an empty machine")
		}
	}
}

// Behind a Drain only the counts tell the machine from a new one.
func TestDrainMakesAllCachesNew(t *testing.T) {
	for _, policy := range []int{api.Oldest, api.Tree, api.Static, api.Rare, api.Dueling} {
		c := api.Config{Cores: 4, Sets: 2, Ways: 4, Policy: api.Tree, LastSets: 4, LastWays: 4, LastPolicy: policy}
		drained := newMachine(t, c)
		for core := range 4 {
			loadLines(t, drained, core, 0, 1, 2, 3, 4, 8, 12, 0, 63, 5, 9, core)
		}
		before, _ := drained.Counts()
		drain(t, drained)
		wantEmpty(t, drained, 4)
		before.Psel = api.PselMid
		wantCounts(t, drained, before)
		fresh := newMachine(t, c)
		for i := range 400 {
			core, addr := i*i%4, i*i*7%256
			v1, p1, e1 := drained.Load(core, addr)
			v2, p2, e2 := fresh.Load(core, addr)
			if v1 != v2 || p1 != p2 || e1 != e2 {
				t.Fatalf("P10: load %d behind a Drain: %d, %d, %d, of a new machine %d, %d, %d", i, v1, p1, e1, v2, p2, e2)
			}
		}
		after, _ := drained.Counts()
		own, _ := fresh.Counts()
		own.Loads += before.Loads
		own.Firsts += before.Firsts
		own.Lasts += before.Lasts
		own.Fetches += before.Fetches
		own.Backs += before.Backs
		if after != own {
			t.Errorf("P10: counts behind a Drain: %+v, want %+v", after, own)
		}
	}
}

// The line that Rare puts in with rank 2 is the 8th behind the Drain, not the 8th of all.
func TestDrainBeginsRareAnew(t *testing.T) {
	c := oneSet(1, 1, 2)
	c.LastPolicy = api.Rare
	m := newMachine(t, c)
	loadLines(t, m, 0, 50, 51, 52, 53, 54)
	drain(t, m)
	loadLines(t, m, 0, upTo(1, 8)...)
	wantLines(t, "P10: the last cache", linesInLast(m), 2, 8)
	loadLines(t, m, 0, 9, 10)
	wantLines(t, "P10: the last cache", linesInLast(m), 8, 10)
}

func TestDrainDoesNotCountLostCopies(t *testing.T) {
	m := newMachine(t, oneSet(2, 2, 2))
	loadLines(t, m, 0, 0, 1)
	loadLines(t, m, 1, 0, 1)
	drain(t, m)
	wantCounts(t, m, api.Counts{Loads: 4, Lasts: 2, Fetches: 2, Psel: 7})
	wantLoad(t, m, 0, 0, 0, api.Memory)
	wantStates(t, m, 0, api.Alone, api.None)
	wantCounts(t, m, api.Counts{Loads: 5, Lasts: 2, Fetches: 3, Psel: 7})
}

// Line 0 is Changed, line 1 Dirty, line 2 both at once, line 63 neither.
func TestDrainWritesEachNewerLineOnce(t *testing.T) {
	m := newMachine(t, oneSet(2, 4, 4))
	loadLines(t, m, 0, 0, 1, 2, 63)
	wantStore(t, m, 0, 0, 10, api.First)
	evict(t, m, 0, 0)
	wantStore(t, m, 0, 7, 11, api.First)
	wantStore(t, m, 0, 8, 12, api.First)
	evict(t, m, 0, 2)
	wantLoad(t, m, 1, 8, 12, api.Last)
	wantStore(t, m, 1, 9, 13, api.First)
	wantStates(t, m, 2, api.None, api.Dirty)
	wantLast(t, m, 2, api.Changed)
	drain(t, m)
	wantEmpty(t, m, 2)
	for addr := range api.Addrs {
		want := 0
		switch addr {
		case 0:
			want = 10
		case 7:
			want = 11
		case 8:
			want = 12
		case 9:
			want = 13
		}
		wantMemory(t, m, addr, want)
	}
	wantCounts(t, m, api.Counts{Loads: 5, Stores: 4, Firsts: 4, Lasts: 1, Fetches: 4, Writes: 3, Psel: 7})
	drain(t, m)
	wantCounts(t, m, api.Counts{Loads: 5, Stores: 4, Firsts: 4, Lasts: 1, Fetches: 4, Writes: 3, Psel: 7})
	wantLoad(t, m, 0, 9, 13, api.Memory)
	wantStates(t, m, 2, api.Alone, api.None)
	wantLast(t, m, 2, api.Clean)
}

// scatter makes 400 loads and stores, and holds each value against what was stored last.
func scatter(t *testing.T, m *coherent.Machine, words *[api.Addrs]int) []int {
	t.Helper()
	var places []int
	for i := range 400 {
		core, addr := i*i%4, i*i*7%256
		if i%3 == 0 {
			words[addr]++
			p, e := m.Store(core, addr, words[addr])
			if e != api.OK {
				t.Errorf("P7: store %d: error %d", i, e)
			}
			places = append(places, p)
			continue
		}
		v, p, e := m.Load(core, addr)
		if v != words[addr] || e != api.OK {
			t.Errorf("P6: load %d of %d: %d, %d, want %d, OK", i, addr, v, e, words[addr])
		}
		places = append(places, p)
	}
	return places
}

// Behind a Drain all goes as at first, but for the words in the memory and the counts, which go on.
func TestDrainBehindStores(t *testing.T) {
	for _, policy := range []int{api.Oldest, api.Tree, api.Static, api.Rare, api.Dueling} {
		c := api.Config{Cores: 4, Sets: 2, Ways: 2, Policy: api.Oldest, LastSets: 4, LastWays: 2, LastPolicy: policy}
		m := newMachine(t, c)
		words := [api.Addrs]int{}
		places := scatter(t, m, &words)
		once, _ := m.Counts()
		newer := 0
		for line := range api.Lines {
			if isNewer(m, line) {
				newer++
			}
		}
		if newer == 0 {
			t.Error("no line is newer than in the memory before the Drain")
		}
		drain(t, m)
		wantEmpty(t, m, 4)
		for addr := range api.Addrs {
			wantMemory(t, m, addr, words[addr])
		}
		want := once
		want.Writes += newer
		want.Psel = api.PselMid
		wantCounts(t, m, want)
		if again := scatter(t, m, &words); !slices.Equal(again, places) {
			t.Error("P10: behind a Drain lines are found in other places than at first")
		}
		twice := api.Counts{
			Loads: 2 * once.Loads, Stores: 2 * once.Stores,
			Firsts: 2 * once.Firsts, Lasts: 2 * once.Lasts, Fetches: 2 * once.Fetches,
			Upgrades: 2 * once.Upgrades, Takens: 2 * once.Takens, Backs: 2 * once.Backs,
			Writes: 2*once.Writes + newer, Psel: once.Psel,
		}
		wantCounts(t, m, twice)
	}
}

// isNewer: the line is Changed in the last cache, or a core has it Dirty.
func isNewer(m *coherent.Machine, line int) bool {
	last, _ := m.Last(line)
	newer := last == api.Changed
	for core := range 4 {
		s, _ := m.State(core, line)
		newer = newer || s == api.Dirty
	}
	return newer
}

// What was written by a Drain is Clean when it is fetched again, and not written again by the next.
func TestDrainThenLoadThenDrain(t *testing.T) {
	m := newMachine(t, oneSet(2, 1, 2))
	wantStore(t, m, 0, 0, 5, api.Memory)
	wantStore(t, m, 1, 255, 6, api.Memory)
	drain(t, m)
	wantLoad(t, m, 1, 0, 5, api.Memory)
	wantStates(t, m, 0, api.None, api.Alone)
	wantLast(t, m, 0, api.Clean)
	wantLoad(t, m, 0, 255, 6, api.Memory)
	drain(t, m)
	wantCounts(t, m, api.Counts{Loads: 2, Stores: 2, Fetches: 4, Writes: 2, Psel: 7})
	wantStore(t, m, 1, 1, 7, api.Memory)
	wantStates(t, m, 0, api.None, api.Dirty)
	drain(t, m)
	wantMemory(t, m, 0, 5)
	wantMemory(t, m, 1, 7)
	wantMemory(t, m, 255, 6)
	wantCounts(t, m, api.Counts{Loads: 2, Stores: 3, Fetches: 5, Writes: 3, Psel: 7})
}
