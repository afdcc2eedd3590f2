package coherent_test

import (
	"testing"

	"coherent/api"
)

func TestEvictEmptiesTheWay(t *testing.T) {
	for _, policy := range []int{api.Oldest, api.Tree} {
		c := oneSet(1, 4, 8)
		c.Policy = policy
		m := newMachine(t, c)
		loadLines(t, m, 0, 0, 1, 2, 3)
		evict(t, m, 0, 3)
		evict(t, m, 0, 1)
		wantLines(t, "P8: the first cache", linesIn(m, 0), 0, 2)
		wantLast(t, m, 1, api.Clean)
		loadLines(t, m, 0, 4, 5)
		wantLines(t, "P8: the first cache", linesIn(m, 0), 0, 2, 4, 5)
		loadLines(t, m, 0, 6)
		wantLines(t, "P8: the first cache", linesIn(m, 0), 2, 4, 5, 6)
		wantCounts(t, m, api.Counts{Loads: 7, Fetches: 7, Psel: 7})
	}
}

// Of two empty ways the lower one is filled first: Tree tells which it was.
func TestEvictedWaysAreFilledFromTheLowest(t *testing.T) {
	c := oneSet(1, 4, 8)
	c.Policy = api.Tree
	m := newMachine(t, c)
	loadLines(t, m, 0, 0, 1, 2, 3)
	evict(t, m, 0, 3)
	evict(t, m, 0, 0)
	// Ways 4 1 2 5: 5 was touched last, and in the lower half 4.
	loadLines(t, m, 0, 4, 5, 6)
	wantLines(t, "P8: the first cache", linesIn(m, 0), 2, 4, 5, 6)
}

func TestEvictFirstAndLastLine(t *testing.T) {
	m := newMachine(t, oneSet(1, 2, 2))
	loadLines(t, m, 0, 0, 63)
	evict(t, m, 0, 63)
	wantLines(t, "P8: the first cache", linesIn(m, 0), 0)
	evict(t, m, 0, 0)
	wantLines(t, "P8: the first cache", linesIn(m, 0))
	wantLines(t, "P8: the last cache", linesInLast(m), 0, 63)
	wantLoad(t, m, 0, 0, 0, api.Last)
	wantLoad(t, m, 0, 255, 0, api.Last)
}

// The others keep what they have, Shared too, though nobody else is left.
func TestEvictLeavesOtherCores(t *testing.T) {
	m := newMachine(t, oneSet(3, 1, 1))
	for core := range 3 {
		loadLines(t, m, core, 7)
	}
	evict(t, m, 1, 7)
	wantStates(t, m, 7, api.Shared, api.None, api.Shared)
	evict(t, m, 0, 7)
	wantStates(t, m, 7, api.None, api.None, api.Shared)
	wantLoad(t, m, 0, 28, 0, api.Last)
	wantStates(t, m, 7, api.Shared, api.None, api.Shared)
	evict(t, m, 2, 7)
	evict(t, m, 0, 7)
	wantLast(t, m, 7, api.Clean)
	wantLoad(t, m, 1, 28, 0, api.Last)
	wantStates(t, m, 7, api.None, api.Alone, api.None)
	wantCounts(t, m, api.Counts{Loads: 5, Lasts: 4, Fetches: 1, Psel: 7})
}

func TestEvictOfALineThatIsNotHeld(t *testing.T) {
	m := newMachine(t, oneSet(2, 2, 2))
	loadLines(t, m, 0, 0, 1)
	wantStore(t, m, 0, 4, 5, api.First)
	before := *m
	for line := range api.Lines {
		evict(t, m, 1, line)
	}
	for line := 2; line < api.Lines; line++ {
		evict(t, m, 0, line)
	}
	if *m != before {
		t.Error("P8: Evict of lines that are not held changed the machine")
	}
}

func TestEvictDoesNotTouchTheLastCache(t *testing.T) {
	for _, policy := range []int{api.Oldest, api.Tree, api.Static} {
		c := oneSet(1, 2, 2)
		c.LastPolicy = policy
		m := newMachine(t, c)
		loadLines(t, m, 0, 0, 1)
		evict(t, m, 0, 0)
		loadLines(t, m, 0, 2)
		wantLines(t, "P8: the last cache", linesInLast(m), 1, 2)
	}
}

func TestEvictOfADirtyLine(t *testing.T) {
	m := newMachine(t, oneSet(2, 1, 2))
	loadLines(t, m, 0, 1)
	wantStore(t, m, 0, 6, -8, api.First)
	evict(t, m, 0, 1)
	wantStates(t, m, 1, api.None, api.None)
	wantLast(t, m, 1, api.Changed)
	wantMemory(t, m, 6, 0)
	wantLoad(t, m, 1, 6, -8, api.Last)
	wantStates(t, m, 1, api.None, api.Alone)
	evict(t, m, 1, 1)
	wantLast(t, m, 1, api.Changed)
	wantCounts(t, m, api.Counts{Loads: 2, Stores: 1, Firsts: 1, Lasts: 1, Fetches: 1, Psel: 7})
}

// A Dirty line that has to go for another leaves as Evict says.
func TestFullFirstSetWithADirtyLine(t *testing.T) {
	m := newMachine(t, oneSet(1, 1, 2))
	loadLines(t, m, 0, 1)
	wantStore(t, m, 0, 7, 11, api.First)
	wantLoad(t, m, 0, 0, 0, api.Memory)
	wantStates(t, m, 1, api.None)
	wantLast(t, m, 1, api.Changed)
	wantLast(t, m, 0, api.Clean)
	wantMemory(t, m, 7, 0)
	wantLoad(t, m, 0, 8, 0, api.Memory)
	wantLast(t, m, 1, api.Away)
	wantMemory(t, m, 7, 11)
	wantCounts(t, m, api.Counts{Loads: 3, Stores: 1, Firsts: 1, Fetches: 3, Writes: 1, Psel: 7})
}
