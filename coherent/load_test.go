package coherent_test

import (
	"testing"

	"coherent/api"
)

// Both copies of what was stored are lost by the drop, and the line is written once.
func TestLoadOfWhatAnotherCoreHasDirty(t *testing.T) {
	m := newMachine(t, oneSet(2, 2, 2))
	wantLoad(t, m, 0, 5, 0, api.Memory)
	wantStates(t, m, 1, api.Alone, api.None)
	wantStore(t, m, 0, 5, 70, api.First)
	wantStates(t, m, 1, api.Dirty, api.None)
	wantLast(t, m, 1, api.Clean)
	wantMemory(t, m, 5, 0)
	wantLoad(t, m, 1, 5, 70, api.Last)
	wantStates(t, m, 1, api.Shared, api.Shared)
	wantLast(t, m, 1, api.Changed)
	wantMemory(t, m, 5, 0)
	wantLoad(t, m, 0, 8, 0, api.Memory)
	wantStates(t, m, 2, api.Alone, api.None)
	wantLoad(t, m, 0, 12, 0, api.Memory)
	wantStates(t, m, 1, api.None, api.None)
	wantLast(t, m, 1, api.Away)
	wantMemory(t, m, 5, 70)
	wantCounts(t, m, api.Counts{Loads: 4, Stores: 1, Firsts: 1, Lasts: 1, Fetches: 3, Backs: 2, Writes: 1, Psel: 7})
	wantLoad(t, m, 1, 5, 70, api.Memory)
	wantLast(t, m, 1, api.Clean)
}

func TestLoadFirstAndLastAddress(t *testing.T) {
	m := newMachine(t, oneSet(1, 2, 2))
	wantLoad(t, m, 0, 0, 0, api.Memory)
	wantLoad(t, m, 0, 255, 0, api.Memory)
	wantLines(t, "the first cache", linesIn(m, 0), 0, 63)
	wantLines(t, "the last cache", linesInLast(m), 0, 63)
	wantLoad(t, m, 0, 3, 0, api.First)
	wantLoad(t, m, 0, 252, 0, api.First)
	wantLoad(t, m, 0, 4, 0, api.Memory)
	wantLoad(t, m, 0, 251, 0, api.Memory)
	wantCounts(t, m, api.Counts{Loads: 6, Firsts: 2, Fetches: 4, Backs: 2, Psel: 7})
}

// Each address belongs to the line of its four words.
func TestLoadEachWordOfALine(t *testing.T) {
	for addr := range api.Addrs {
		m := newMachine(t, oneSet(1, 8, 8))
		wantLoad(t, m, 0, addr, 0, api.Memory)
		wantLines(t, "the first cache", linesIn(m, 0), addr/4)
		wantLines(t, "the last cache", linesInLast(m), addr/4)
		low := addr - addr%4
		for word := low; word < low+4; word++ {
			wantLoad(t, m, 0, word, 0, api.First)
		}
	}
}

func TestLoadByAllCores(t *testing.T) {
	m := newMachine(t, oneSet(api.MaxCores, 1, 1))
	wantLoad(t, m, 3, 0, 0, api.Memory)
	wantStates(t, m, 0, api.None, api.None, api.None, api.Alone)
	wantLoad(t, m, 1, 1, 0, api.Last)
	wantStates(t, m, 0, api.None, api.Shared, api.None, api.Shared)
	wantLoad(t, m, 0, 2, 0, api.Last)
	wantLoad(t, m, 2, 3, 0, api.Last)
	wantStates(t, m, 0, api.Shared, api.Shared, api.Shared, api.Shared)
	wantLast(t, m, 0, api.Clean)
	for core := range api.MaxCores {
		wantLoad(t, m, core, core, 0, api.First)
	}
	wantStates(t, m, 0, api.Shared, api.Shared, api.Shared, api.Shared)
	wantCounts(t, m, api.Counts{Loads: 8, Firsts: 4, Lasts: 3, Fetches: 1, Psel: 7})
}

func TestDropWhileAllCoresHoldTheLine(t *testing.T) {
	m := newMachine(t, oneSet(api.MaxCores, 8, 1))
	for core := range api.MaxCores {
		loadLines(t, m, core, 63)
	}
	wantLoad(t, m, 2, 0, 0, api.Memory)
	wantStates(t, m, 63, api.None, api.None, api.None, api.None)
	wantStates(t, m, 0, api.None, api.None, api.Alone, api.None)
	wantLines(t, "the last cache", linesInLast(m), 0)
	wantCounts(t, m, api.Counts{Loads: 5, Lasts: 3, Fetches: 2, Backs: 4, Psel: 7})
	wantLoad(t, m, 0, 252, 0, api.Memory)
	wantStates(t, m, 63, api.Alone, api.None, api.None, api.None)
	wantStates(t, m, 0, api.None, api.None, api.None, api.None)
	wantCounts(t, m, api.Counts{Loads: 6, Lasts: 3, Fetches: 3, Backs: 5, Psel: 7})
}

// A line that no core holds any more is dropped without a copy lost.
func TestDropOfALineThatNobodyHolds(t *testing.T) {
	m := newMachine(t, oneSet(2, 1, 2))
	loadLines(t, m, 0, 0, 1)
	wantLines(t, "the last cache", linesInLast(m), 0, 1)
	loadLines(t, m, 0, 2)
	wantLines(t, "the last cache", linesInLast(m), 1, 2)
	wantCounts(t, m, api.Counts{Loads: 3, Fetches: 3, Psel: 7})
}

// The way that the drop empties takes the new line, so the oldest line of the first cache stays.
func TestDropEmptiesAWayBeforeTheLineIsPutIn(t *testing.T) {
	m := newMachine(t, oneSet(1, 2, 2))
	loadLines(t, m, 0, 0, 1)
	wantLoad(t, m, 0, 0, 0, api.First)
	wantLoad(t, m, 0, 8, 0, api.Memory)
	wantLines(t, "the first cache", linesIn(m, 0), 1, 2)
	wantCounts(t, m, api.Counts{Loads: 4, Firsts: 1, Fetches: 3, Backs: 1, Psel: 7})
}

// Found in First touches the first cache alone; found in Last touches the last one too.
func TestLoadTouchesTheLastCacheOnlyWhenFoundThere(t *testing.T) {
	m := newMachine(t, oneSet(2, 4, 2))
	loadLines(t, m, 0, 0, 1)
	wantLoad(t, m, 0, 0, 0, api.First)
	wantLoad(t, m, 0, 8, 0, api.Memory)
	wantLines(t, "the last cache", linesInLast(m), 1, 2)
	wantLoad(t, m, 1, 4, 0, api.Last)
	wantLoad(t, m, 0, 12, 0, api.Memory)
	wantLines(t, "the last cache", linesInLast(m), 1, 3)
	wantStates(t, m, 1, api.Shared, api.Shared)
}

// A full first set of each size: line 0 is found again, so line 1 is the oldest.
func TestFullFirstSetOldest(t *testing.T) {
	for _, ways := range []int{2, 4, 8} {
		c := oneSet(1, ways, 8)
		c.LastSets = 8
		m := newMachine(t, c)
		loadLines(t, m, 0, upTo(0, ways-1)...)
		wantLoad(t, m, 0, 0, 0, api.First)
		wantLoad(t, m, 0, 63*4, 0, api.Memory)
		want := append([]int{0}, upTo(2, ways-1)...)
		wantLines(t, "P6: the first cache", linesIn(m, 0), append(want, 63)...)
		wantLast(t, m, 1, api.Clean)
		wantLoad(t, m, 0, 4, 0, api.Last)
		wantStates(t, m, 1, api.Alone)
	}
}

// With one way each line drives out the one before, whatever the policy.
func TestFullFirstSetOfOneWay(t *testing.T) {
	for _, policy := range []int{api.Oldest, api.Tree} {
		c := oneSet(1, 1, 8)
		c.Policy = policy
		m := newMachine(t, c)
		for line := range 8 {
			wantLoad(t, m, 0, line*4, 0, api.Memory)
			wantLines(t, "P6: the first cache", linesIn(m, 0), line)
		}
		wantLoad(t, m, 0, 0, 0, api.Last)
	}
}

// As the document's table has it for Tree: lines 1 2 3 4 1 5 6, of which 3 goes, then 2, not the oldest.
func TestFullFirstSetTree(t *testing.T) {
	c := oneSet(1, 4, 8)
	c.Policy = api.Tree
	m := newMachine(t, c)
	loadLines(t, m, 0, 1, 2, 3, 4, 1, 5)
	wantLines(t, "P6: the first cache", linesIn(m, 0), 1, 2, 4, 5)
	loadLines(t, m, 0, 6)
	wantLines(t, "P6: the first cache", linesIn(m, 0), 1, 4, 5, 6)
}

// The tables of Touches, with each line evicted from the first cache at once, so that the last cache is asked each time.
func TestFullLastSet(t *testing.T) {
	for _, c := range []struct {
		policy, ways int
		lines, want  []int
	}{
		{api.Oldest, 2, []int{1, 2, 1, 3}, []int{1, 3}},
		{api.Oldest, 2, []int{1, 2, 1, 3, 2}, []int{2, 3}},
		{api.Tree, 4, []int{1, 2, 3, 4, 1, 5}, []int{1, 2, 4, 5}},
		{api.Tree, 4, []int{1, 2, 3, 4, 1, 5, 6}, []int{1, 4, 5, 6}},
		{api.Static, 2, []int{1, 2, 1, 3, 2}, []int{1, 2}},
		{api.Rare, 2, []int{1, 2, 1, 3, 4}, []int{1, 4}},
		{api.Rare, 2, upTo(1, 17), []int{16, 17}},
		{api.Dueling, 2, []int{1, 2, 1, 3, 2}, []int{1, 2}},
		{api.Oldest, 1, upTo(0, 63), []int{63}},
		{api.Oldest, 8, upTo(0, 63), upTo(56, 63)},
	} {
		config := oneSet(2, 1, c.ways)
		config.LastPolicy = c.policy
		m := newMachine(t, config)
		for _, line := range c.lines {
			loadLines(t, m, 1, line)
			evict(t, m, 1, line)
		}
		wantLines(t, "P6: the last cache", linesInLast(m), c.want...)
	}
}

// With n sets of one way, lines of different sets leave each other alone.
func TestLinesBelongToTheirSets(t *testing.T) {
	for _, sets := range sizes {
		c := api.Config{Cores: 1, Sets: sets, Ways: 1, LastSets: 8, LastWays: 8}
		m := newMachine(t, c)
		loadLines(t, m, 0, upTo(0, sets-1)...)
		wantLines(t, "a first cache", linesIn(m, 0), upTo(0, sets-1)...)
		loadLines(t, m, 0, sets)
		wantLines(t, "a first cache", linesIn(m, 0), upTo(1, sets)...)

		c = api.Config{Cores: 1, Sets: 8, Ways: 8, LastSets: sets, LastWays: 1}
		m = newMachine(t, c)
		loadLines(t, m, 0, upTo(64-sets, 63)...)
		wantLines(t, "the last cache", linesInLast(m), upTo(64-sets, 63)...)
		loadLines(t, m, 0, 0)
		want := append([]int{0}, upTo(65-sets, 63)...)
		wantLines(t, "the last cache", linesInLast(m), want...)
		wantLines(t, "a first cache", linesIn(m, 0), want...)
	}
}

// A machine as big as can be holds all lines at once.
func TestAllLinesAtOnce(t *testing.T) {
	m := newMachine(t, api.Config{Cores: 4, Sets: 8, Ways: 8, Policy: api.Tree, LastSets: 8, LastWays: 8, LastPolicy: api.Rare})
	for core := range 4 {
		loadLines(t, m, core, upTo(0, 63)...)
	}
	for core := range 4 {
		wantLines(t, "a first cache", linesIn(m, core), upTo(0, 63)...)
	}
	wantLines(t, "the last cache", linesInLast(m), upTo(0, 63)...)
	wantCounts(t, m, api.Counts{Loads: 256, Lasts: 192, Fetches: 64, Psel: 7})
}

// A dropped line that a core has Dirty, though it is Clean in the last cache, is written once, with all its words.
func TestDropWritesWhatIsDirty(t *testing.T) {
	m := newMachine(t, oneSet(1, 2, 1))
	loadLines(t, m, 0, 63)
	for word := range 4 {
		wantStore(t, m, 0, 252+word, 10+word, api.First)
	}
	wantLoad(t, m, 0, 0, 0, api.Memory)
	for word := range 4 {
		wantMemory(t, m, 252+word, 10+word)
	}
	wantMemory(t, m, 251, 0)
	wantCounts(t, m, api.Counts{Loads: 2, Stores: 4, Firsts: 4, Fetches: 2, Backs: 1, Writes: 1, Psel: 7})
	wantLoad(t, m, 0, 253, 11, api.Memory)
	wantCounts(t, m, api.Counts{Loads: 3, Stores: 4, Firsts: 4, Fetches: 3, Backs: 2, Writes: 1, Psel: 7})
}
