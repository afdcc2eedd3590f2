package coherent_test

import (
	"testing"

	"coherent/api"
)

func TestExampleOfTwoCores(t *testing.T) {
	m := newMachine(t, oneSet(2, 2, 2))
	wantStore(t, m, 0, 5, 70, api.Memory)
	wantStates(t, m, 1, api.Dirty, api.None)
	wantLast(t, m, 1, api.Clean)
	wantMemory(t, m, 5, 0)
	wantLoad(t, m, 1, 5, 70, api.Last)
	wantStates(t, m, 1, api.Shared, api.Shared)
	wantLast(t, m, 1, api.Changed)
	wantMemory(t, m, 5, 0)
	wantStore(t, m, 1, 4, 80, api.First)
	wantStates(t, m, 1, api.None, api.Dirty)
	wantLast(t, m, 1, api.Changed)
	wantLoad(t, m, 0, 8, 0, api.Memory)
	wantStates(t, m, 2, api.Alone, api.None)
	wantLoad(t, m, 0, 12, 0, api.Memory)
	wantStates(t, m, 1, api.None, api.None)
	wantLast(t, m, 1, api.Away)
	wantMemory(t, m, 4, 80)
	wantMemory(t, m, 5, 70)
	wantCounts(t, m, api.Counts{Loads: 3, Stores: 2, Firsts: 1, Lasts: 1, Fetches: 3, Upgrades: 1, Takens: 1, Backs: 1, Writes: 1, Psel: 7})
}

// Each word is stored by itself, the first and the last address too, and reaches its own place in the memory.
func TestStoreEachAddress(t *testing.T) {
	for _, cores := range []int{1, api.MaxCores} {
		m := newMachine(t, oneSet(cores, 1, 1))
		for addr := range api.Addrs {
			place := api.First
			if addr%4 == 0 {
				place = api.Memory
			}
			wantStore(t, m, addr/4%cores, addr, 1000+addr, place)
			wantMemory(t, m, addr, 0)
			wantLines(t, "P7: the last cache", linesInLast(m), addr/4)
			wantLines(t, "P7: the core's first cache", linesIn(m, addr/4%cores), addr/4)
		}
		wantCounts(t, m, api.Counts{Stores: 256, Firsts: 192, Fetches: 64, Backs: 63, Writes: 63, Psel: 7})
		drain(t, m)
		for addr := range api.Addrs {
			wantMemory(t, m, addr, 1000+addr)
		}
		wantCounts(t, m, api.Counts{Stores: 256, Firsts: 192, Fetches: 64, Backs: 63, Writes: 64, Psel: 7})
	}
}

// Every number of Go's type int is a value, in the caches and in the memory.
func TestStoreValuesAtBothEnds(t *testing.T) {
	for _, addr := range []int{0, 3, 252, 255} {
		for _, value := range []int{smallest, smallest + 1, -1, 0, 1, 1 << 32, biggest - 1, biggest} {
			m := newMachine(t, oneSet(2, 1, 1))
			wantStore(t, m, 0, addr, value, api.Memory)
			wantLoad(t, m, 0, addr, value, api.First)
			wantLoad(t, m, 1, addr, value, api.Last)
			wantMemory(t, m, addr, 0)
			drain(t, m)
			wantMemory(t, m, addr, value)
			wantLoad(t, m, 1, addr, value, api.Memory)
		}
	}
}

// A value that was there already makes the line Dirty, and is written, like any other.
func TestStoreOfTheSameValue(t *testing.T) {
	m := newMachine(t, oneSet(1, 1, 1))
	wantLoad(t, m, 0, 9, 0, api.Memory)
	wantStore(t, m, 0, 9, 0, api.First)
	wantStates(t, m, 2, api.Dirty)
	drain(t, m)
	wantCounts(t, m, api.Counts{Loads: 1, Stores: 1, Firsts: 1, Fetches: 1, Writes: 1, Psel: 7})
}

func TestStoreToALineInNoCache(t *testing.T) {
	m := newMachine(t, oneSet(api.MaxCores, 1, 1))
	wantStore(t, m, 3, 255, 7, api.Memory)
	wantStates(t, m, 63, api.None, api.None, api.None, api.Dirty)
	wantLast(t, m, 63, api.Clean)
	wantLoad(t, m, 3, 255, 7, api.First)
	wantLoad(t, m, 3, 254, 0, api.First)
	wantCounts(t, m, api.Counts{Loads: 2, Stores: 1, Firsts: 2, Fetches: 1, Psel: 7})
}

// Alone becomes Dirty without an upgrade, and the last cache does not hear of it.
func TestStoreToALineThatIsAloneOrDirty(t *testing.T) {
	m := newMachine(t, oneSet(2, 1, 1))
	wantLoad(t, m, 1, 5, 0, api.Memory)
	wantStates(t, m, 1, api.None, api.Alone)
	wantStore(t, m, 1, 6, 11, api.First)
	wantStates(t, m, 1, api.None, api.Dirty)
	wantLast(t, m, 1, api.Clean)
	wantStore(t, m, 1, 6, 12, api.First)
	wantStore(t, m, 1, 7, 13, api.First)
	wantStates(t, m, 1, api.None, api.Dirty)
	wantLast(t, m, 1, api.Clean)
	for word, want := range []int{0, 0, 12, 13} {
		wantLoad(t, m, 1, 4+word, want, api.First)
	}
	wantMemory(t, m, 6, 0)
	wantCounts(t, m, api.Counts{Loads: 5, Stores: 3, Firsts: 7, Fetches: 1, Psel: 7})
}

// One upgrade, however many lose their copy.
func TestStoreToALineThatIsShared(t *testing.T) {
	for cores := 2; cores <= api.MaxCores; cores++ {
		for storer := range cores {
			m := newMachine(t, oneSet(cores, 1, 1))
			for core := range cores {
				loadLines(t, m, core, 8)
			}
			wantStore(t, m, storer, 34, 5, api.First)
			for core := range cores {
				want := []int{}
				if core == storer {
					want = append(want, 8)
				}
				wantLines(t, "P7: a first cache", linesIn(m, core), want...)
			}
			if s, _ := m.State(storer, 8); s != api.Dirty {
				t.Errorf("P7: State(%d, 8) = %d, want Dirty", storer, s)
			}
			wantLast(t, m, 8, api.Clean)
			wantCounts(t, m, api.Counts{Loads: cores, Stores: 1, Firsts: 1, Lasts: cores - 1, Fetches: 1, Upgrades: 1, Takens: cores - 1, Psel: 7})
			wantStore(t, m, storer, 34, 6, api.First)
			wantCounts(t, m, api.Counts{Loads: cores, Stores: 2, Firsts: 2, Lasts: cores - 1, Fetches: 1, Upgrades: 1, Takens: cores - 1, Psel: 7})
		}
	}
}

// A line stays Shared when the others have evicted it: that is an upgrade too, though nobody loses a copy.
func TestStoreToASharedLineThatNobodyElseHolds(t *testing.T) {
	m := newMachine(t, oneSet(2, 1, 1))
	loadLines(t, m, 0, 3)
	loadLines(t, m, 1, 3)
	evict(t, m, 0, 3)
	wantStates(t, m, 3, api.None, api.Shared)
	wantStore(t, m, 1, 12, 9, api.First)
	wantStates(t, m, 3, api.None, api.Dirty)
	wantCounts(t, m, api.Counts{Loads: 2, Stores: 1, Firsts: 1, Lasts: 1, Fetches: 1, Upgrades: 1, Psel: 7})
}

// Others hold the line, the core does not: no upgrade, but each other copy is taken.
func TestStoreToALineThatOthersHold(t *testing.T) {
	m := newMachine(t, oneSet(api.MaxCores, 1, 1))
	loadLines(t, m, 0, 3)
	wantStore(t, m, 2, 12, 4, api.Last)
	wantStates(t, m, 3, api.None, api.None, api.Dirty, api.None)
	wantLast(t, m, 3, api.Clean)
	wantCounts(t, m, api.Counts{Loads: 1, Stores: 1, Lasts: 1, Fetches: 1, Takens: 1, Psel: 7})
	wantStore(t, m, 0, 13, 5, api.Last)
	wantStates(t, m, 3, api.Dirty, api.None, api.None, api.None)
	wantLast(t, m, 3, api.Changed)
	wantCounts(t, m, api.Counts{Loads: 1, Stores: 2, Lasts: 2, Fetches: 1, Takens: 2, Psel: 7})
	wantLoad(t, m, 1, 12, 4, api.Last)
	wantLoad(t, m, 3, 13, 5, api.Last)
	wantStates(t, m, 3, api.Shared, api.Shared, api.None, api.Shared)
	wantStore(t, m, 2, 14, 6, api.Last)
	wantStates(t, m, 3, api.None, api.None, api.Dirty, api.None)
	wantCounts(t, m, api.Counts{Loads: 3, Stores: 3, Lasts: 5, Fetches: 1, Takens: 5, Psel: 7})
	wantLoad(t, m, 2, 12, 4, api.First)
	wantLoad(t, m, 2, 13, 5, api.First)
	wantLoad(t, m, 2, 14, 6, api.First)
	wantMemory(t, m, 12, 0)
}

// In the last cache alone, first Clean, then Changed: a store by a core does not change that.
func TestStoreToALineInTheLastCacheAlone(t *testing.T) {
	m := newMachine(t, oneSet(2, 1, 1))
	loadLines(t, m, 0, 3)
	evict(t, m, 0, 3)
	wantStore(t, m, 1, 12, 4, api.Last)
	wantStates(t, m, 3, api.None, api.Dirty)
	wantLast(t, m, 3, api.Clean)
	evict(t, m, 1, 3)
	wantLast(t, m, 3, api.Changed)
	wantStore(t, m, 0, 15, 5, api.Last)
	wantStates(t, m, 3, api.Dirty, api.None)
	wantLast(t, m, 3, api.Changed)
	wantCounts(t, m, api.Counts{Loads: 1, Stores: 2, Lasts: 2, Fetches: 1, Psel: 7})
	drain(t, m)
	wantMemory(t, m, 12, 4)
	wantMemory(t, m, 15, 5)
	wantCounts(t, m, api.Counts{Loads: 1, Stores: 2, Lasts: 2, Fetches: 1, Writes: 1, Psel: 7})
}

// Cores take turns at words of one line, and nobody's word is lost.
func TestStoresByAllCoresToOneLine(t *testing.T) {
	m := newMachine(t, oneSet(api.MaxCores, 1, 1))
	for round := range 5 {
		for core := range api.MaxCores {
			place := api.Last
			if round == 0 && core == 0 {
				place = api.Memory
			}
			wantStore(t, m, core, 252+core, 10*round+core, place)
		}
	}
	wantCounts(t, m, api.Counts{Stores: 20, Lasts: 19, Fetches: 1, Takens: 19, Psel: 7})
	for core := range api.MaxCores {
		wantLoad(t, m, 3, 252+core, 40+core, api.First)
		wantMemory(t, m, 252+core, 0)
	}
	drain(t, m)
	for core := range api.MaxCores {
		wantMemory(t, m, 252+core, 40+core)
	}
}

// The words of the line that is stored to stay away from the memory; the dropped line's go there.
func TestStoreThatDropsAChangedLine(t *testing.T) {
	m := newMachine(t, oneSet(2, 2, 1))
	wantStore(t, m, 0, 20, 1, api.Memory)
	wantStore(t, m, 0, 23, 2, api.First)
	evict(t, m, 0, 5)
	wantLast(t, m, 5, api.Changed)
	wantStore(t, m, 1, 24, 3, api.Memory)
	wantLast(t, m, 5, api.Away)
	wantLast(t, m, 6, api.Clean)
	wantMemory(t, m, 20, 1)
	wantMemory(t, m, 23, 2)
	wantMemory(t, m, 24, 0)
	wantCounts(t, m, api.Counts{Stores: 3, Firsts: 1, Fetches: 2, Writes: 1, Psel: 7})
	wantLoad(t, m, 0, 20, 1, api.Memory)
	wantLast(t, m, 5, api.Clean)
	wantMemory(t, m, 24, 3)
	wantCounts(t, m, api.Counts{Loads: 1, Stores: 3, Firsts: 1, Fetches: 3, Backs: 1, Writes: 2, Psel: 7})
}

// A copy that is lost by the drop is counted in Backs alone, not in Takens.
func TestStoreThatDropsALineThatAnotherCoreHasDirty(t *testing.T) {
	m := newMachine(t, oneSet(2, 2, 1))
	wantStore(t, m, 0, 20, 1, api.Memory)
	wantStore(t, m, 1, 24, 3, api.Memory)
	wantStates(t, m, 5, api.None, api.None)
	wantStates(t, m, 6, api.None, api.Dirty)
	wantLast(t, m, 5, api.Away)
	wantMemory(t, m, 20, 1)
	wantMemory(t, m, 24, 0)
	wantCounts(t, m, api.Counts{Stores: 2, Fetches: 2, Backs: 1, Writes: 1, Psel: 7})
}

// Nothing is written when the dropped line is as in the memory, though several cores hold it.
func TestStoreThatDropsACleanLine(t *testing.T) {
	m := newMachine(t, oneSet(3, 2, 1))
	for core := range 3 {
		loadLines(t, m, core, 5)
	}
	wantStore(t, m, 2, 24, 3, api.Memory)
	wantStates(t, m, 5, api.None, api.None, api.None)
	wantStates(t, m, 6, api.None, api.None, api.Dirty)
	wantCounts(t, m, api.Counts{Loads: 3, Stores: 1, Lasts: 2, Fetches: 2, Backs: 3, Psel: 7})
}

// The core's own Dirty line is dropped, and its way takes the new line, so the oldest line of the first cache stays.
func TestStoreThatDropsALineOfItsOwn(t *testing.T) {
	m := newMachine(t, oneSet(1, 2, 2))
	wantStore(t, m, 0, 0, 1, api.Memory)
	wantStore(t, m, 0, 4, 2, api.Memory)
	wantStore(t, m, 0, 1, 3, api.First)
	wantStore(t, m, 0, 8, 4, api.Memory)
	wantLines(t, "P7: the first cache", linesIn(m, 0), 1, 2)
	wantLast(t, m, 1, api.Clean)
	wantMemory(t, m, 0, 1)
	wantMemory(t, m, 1, 3)
	wantMemory(t, m, 4, 0)
	wantCounts(t, m, api.Counts{Stores: 4, Firsts: 1, Fetches: 3, Backs: 1, Writes: 1, Psel: 7})
}

// The oldest of the Dirty lines leaves as Evict says, in a set of each size.
func TestStoreIntoASetThatIsFullOfDirtyLines(t *testing.T) {
	for _, ways := range sizes {
		c := oneSet(2, ways, 8)
		c.LastSets = 8
		m := newMachine(t, c)
		for line := range ways {
			wantStore(t, m, 1, 4*line, 50+line, api.Memory)
		}
		wantStore(t, m, 1, 252, 99, api.Memory)
		wantLines(t, "P7: the first cache", linesIn(m, 1), append(upTo(1, ways-1), 63)...)
		wantLast(t, m, 0, api.Changed)
		for line := 1; line < ways; line++ {
			wantStates(t, m, line, api.None, api.Dirty)
			wantLast(t, m, line, api.Clean)
		}
		wantStates(t, m, 63, api.None, api.Dirty)
		wantLast(t, m, 63, api.Clean)
		wantMemory(t, m, 0, 0)
		wantLoad(t, m, 0, 0, 50, api.Last)
		wantStates(t, m, 0, api.Alone, api.None)
		wantCounts(t, m, api.Counts{Loads: 1, Stores: ways + 1, Lasts: 1, Fetches: ways + 1, Psel: 7})
	}
}

// A store touches the way that its line is found in, be it Dirty, Alone or Shared, so that the other line has to go.
func TestStoreTouchesTheWay(t *testing.T) {
	for _, policy := range []int{api.Oldest, api.Tree} {
		for state := api.Shared; state <= api.Dirty; state++ {
			c := oneSet(2, 2, 8)
			c.Policy = policy
			m := newMachine(t, c)
			loadLines(t, m, 0, 0)
			if state == api.Shared {
				loadLines(t, m, 1, 0)
			}
			if state == api.Dirty {
				wantStore(t, m, 0, 0, 0, api.First)
			}
			loadLines(t, m, 0, 1)
			if s, _ := m.State(0, 0); s != state {
				t.Errorf("P9: State(0, 0) = %d, want %d", s, state)
			}
			wantStore(t, m, 0, 3, 5, api.First)
			loadLines(t, m, 0, 2)
			wantLines(t, "P7: the first cache", linesIn(m, 0), 0, 2)
		}
	}
}

// Found in First leaves the last cache untouched, as an upgrade too; found in Last touches it.
func TestStoreTouchesTheLastCacheOnlyWhenFoundThere(t *testing.T) {
	m := newMachine(t, oneSet(2, 4, 2))
	loadLines(t, m, 0, 0, 1)
	wantStore(t, m, 0, 0, 5, api.First)
	wantStore(t, m, 0, 8, 0, api.Memory)
	wantLines(t, "P7: the last cache", linesInLast(m), 1, 2)
	wantStore(t, m, 1, 4, 0, api.Last)
	loadLines(t, m, 0, 3)
	wantLines(t, "P7: the last cache", linesInLast(m), 1, 3)
	loadLines(t, m, 1, 3)
	loadLines(t, m, 0, 1)
	wantStore(t, m, 0, 12, 6, api.First)
	loadLines(t, m, 0, 4)
	wantLines(t, "P7: the last cache", linesInLast(m), 1, 4)
	wantCounts(t, m, api.Counts{Loads: 6, Stores: 4, Firsts: 2, Lasts: 3, Fetches: 5, Upgrades: 1, Takens: 2, Backs: 3, Writes: 3, Psel: 7})
}

// The way of a copy that was taken is empty: the next line goes there, and no other has to go.
func TestStoreEmptiesTheWaysOfOthers(t *testing.T) {
	for _, upgrade := range []bool{false, true} {
		m := newMachine(t, oneSet(2, 2, 8))
		loadLines(t, m, 1, 0, 1)
		place := api.Last
		if upgrade {
			loadLines(t, m, 0, 1)
			place = api.First
		}
		wantStore(t, m, 0, 4, 5, place)
		wantLines(t, "P7: the other first cache", linesIn(m, 1), 0)
		loadLines(t, m, 1, 2)
		wantLines(t, "P7: the other first cache", linesIn(m, 1), 0, 2)
		wantLoad(t, m, 1, 4, 5, api.Last)
		wantLines(t, "P7: the other first cache", linesIn(m, 1), 1, 2)
	}
}

// A miss by a store counts in the duel, and for Rare, as one by a load does.
func TestStoreMissesCountInTheLastCache(t *testing.T) {
	m := dueling(t, 8, 1)
	for i := range 10 {
		wantStore(t, m, 0, 32*(i%2), i, api.Memory)
		wantPsel(t, m, min(api.PselMax, api.PselMid+1+i))
	}
	wantStore(t, m, 0, 32, 1, api.First)
	wantStore(t, m, 0, 4, 1, api.Memory)
	wantStore(t, m, 0, 32, 1, api.Last)
	wantPsel(t, m, api.PselMax-1)

	c := oneSet(1, 1, 2)
	c.LastPolicy = api.Rare
	m = newMachine(t, c)
	for line := 1; line <= 8; line++ {
		wantStore(t, m, 0, 4*line, line, api.Memory)
	}
	wantLines(t, "P7: the last cache", linesInLast(m), 2, 8)
	wantStore(t, m, 0, 36, 9, api.Memory)
	wantStore(t, m, 0, 40, 10, api.Memory)
	wantLines(t, "P7: the last cache", linesInLast(m), 8, 10)
}

// A wrong address is told behind a wrong core, whatever the value, and neither is counted.
func TestStoreErrors(t *testing.T) {
	for cores := 1; cores <= api.MaxCores; cores++ {
		m := newMachine(t, oneSet(cores, 1, 1))
		wantStore(t, m, cores-1, 255, 8, api.Memory)
		for _, c := range []struct {
			core, addr int
			want       api.Errno
		}{
			{-1, 0, api.ErrCore}, {cores, 255, api.ErrCore}, {api.MaxCores, 0, api.ErrCore}, {smallest, 0, api.ErrCore}, {biggest, 0, api.ErrCore},
			{-1, -1, api.ErrCore}, {cores, 256, api.ErrCore}, {smallest, biggest, api.ErrCore}, {biggest, smallest, api.ErrCore},
			{0, -1, api.ErrAddr}, {cores - 1, 256, api.ErrAddr}, {0, smallest, api.ErrAddr}, {cores - 1, biggest, api.ErrAddr},
		} {
			for _, value := range []int{smallest, 0, 1, biggest} {
				if p, e := m.Store(c.core, c.addr, value); p != 0 || e != c.want {
					t.Errorf("P7: %d cores: Store(%d, %d, %d) = %d, %d, want 0, %d", cores, c.core, c.addr, value, p, e, c.want)
				}
			}
		}
		wantCounts(t, m, api.Counts{Stores: 1, Fetches: 1, Psel: 7})
		wantLoad(t, m, cores-1, 255, 8, api.First)
	}
}
