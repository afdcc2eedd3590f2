package cache

import (
	"testing"

	"coherent/api"
	"coherent/set"
)

var sizes = []int{1, 2, 4, 8}

func wantTouch(t *testing.T, c *Cache, line int, want api.Touch) {
	t.Helper()
	if got := c.Touch(line); got != want {
		t.Errorf("line %d: %+v, want %+v", line, got, want)
	}
}

// Each line goes to the set of its number modulo the sets, and fills that one alone.
func TestTouchPutsALineIntoItsSet(t *testing.T) {
	for _, sets := range sizes {
		for _, ways := range sizes {
			for line := range api.Lines {
				c := New(sets, ways, api.Oldest)
				for way := range ways {
					wantTouch(t, &c, line+way*sets, api.Touch{Way: way, Out: set.Empty})
				}
				wantTouch(t, &c, line, api.Touch{Hit: true, Way: 0, Out: set.Empty})
				for other := line + 1; other < line+sets; other++ {
					wantTouch(t, &c, other, api.Touch{Way: 0, Out: set.Empty})
				}
				goes := api.Touch{Way: 0, Out: line}
				if ways > 1 {
					goes = api.Touch{Way: 1, Out: line + sets}
				}
				wantTouch(t, &c, line+ways*sets, goes)
			}
		}
	}
}

func TestRemove(t *testing.T) {
	c := New(2, 2, api.Oldest)
	for line := range 4 {
		c.Touch(line)
	}
	before := c
	c.Remove(5)
	c.Remove(4)
	if c != before {
		t.Errorf("Remove of lines that are not there: %v, before %v", c, before)
	}
	c.Remove(2)
	wantTouch(t, &c, 4, api.Touch{Way: 1, Out: set.Empty})
	wantTouch(t, &c, 3, api.Touch{Hit: true, Way: 1, Out: set.Empty})
	wantTouch(t, &c, 2, api.Touch{Way: 0, Out: 0})
}

// The 8th line that is put in anywhere has rank 2, so in its set the other way goes first.
func TestRareCountsOverAllSets(t *testing.T) {
	c := New(4, 2, api.Rare)
	for line := range 7 {
		wantTouch(t, &c, line, api.Touch{Way: line / 4, Out: set.Empty})
	}
	wantTouch(t, &c, 0, api.Touch{Hit: true, Way: 0, Out: set.Empty})
	wantTouch(t, &c, 10, api.Touch{Way: 0, Out: 2}) // the 8th
	wantTouch(t, &c, 14, api.Touch{Way: 1, Out: 6})
	wantTouch(t, &c, 18, api.Touch{Way: 1, Out: 14})
}

// Lines that are put in as Static says are not counted.
func TestDuelingCountsRaresAlone(t *testing.T) {
	c := New(4, 2, api.Dueling)
	for i := range 7 {
		c.Touch(1 + 4*i)
		c.Touch(4 * i)
		c.Touch(4*i + 2)
		c.psel = api.PselMid
	}
	want := c.ranks
	c.Touch(3)
	c.Touch(40)
	if c.ranks != want {
		t.Errorf("Static changed the count of rares: %v, before %v", c.ranks, want)
	}
	// Way 0 of set 1 takes the 8th line, so way 1, which holds line 5, goes next.
	wantTouch(t, &c, 29, api.Touch{Way: 0, Out: 25})
	wantTouch(t, &c, 33, api.Touch{Way: 1, Out: 5})
}

func TestPolicyOf(t *testing.T) {
	for psel := 0; psel <= api.PselMax; psel++ {
		follow := api.Static
		if psel >= 8 {
			follow = api.Rare
		}
		want := []int{api.Static, api.Rare, follow, follow, api.Static, api.Rare, follow, follow}
		c := New(8, 1, api.Dueling)
		c.psel = psel
		for number := range 8 {
			if got := c.policyOf(number); got != want[number] {
				t.Errorf("PSEL %d, set %d: policy %d, want %d", psel, number, got, want[number])
			}
		}
	}
	for policy := api.Oldest; policy <= api.Rare; policy++ {
		c := New(8, 1, policy)
		for number := range 8 {
			if got := c.policyOf(number); got != policy {
				t.Errorf("policy %d, set %d: policy %d", policy, number, got)
			}
		}
	}
}

func TestPselMoves(t *testing.T) {
	for policy := api.Oldest; policy <= api.Dueling; policy++ {
		for line := range 8 {
			for _, psel := range []int{0, 1, api.PselMid, api.PselMid + 1, api.PselMax - 1, api.PselMax} {
				c := New(8, 1, policy)
				if c.Psel() != api.PselMid {
					t.Errorf("policy %d: PSEL %d at first", policy, c.Psel())
				}
				c.psel = psel
				want := psel
				if policy == api.Dueling && line%4 == 0 {
					want = min(api.PselMax, psel+1)
				}
				if policy == api.Dueling && line%4 == 1 {
					want = max(0, psel-1)
				}
				c.Touch(line)
				if c.Psel() != want {
					t.Errorf("policy %d, line %d, PSEL %d: PSEL %d behind a miss, want %d", policy, line, psel, c.Psel(), want)
				}
				c.Touch(line)
				c.Remove(line)
				if c.Psel() != want {
					t.Errorf("policy %d, line %d, PSEL %d: PSEL %d behind a hit, want %d", policy, line, psel, c.Psel(), want)
				}
			}
		}
	}
}

// Ranks stay what they are when the policy of a set changes.
func TestRanksOutlastTheDuel(t *testing.T) {
	c := New(4, 2, api.Dueling)
	c.Touch(2)
	c.Touch(6)
	c.psel = api.PselMid + 1
	// Ranks 2 2 from Static, so both go up, and way 0 goes; 10 has rank 3 as Rare says, as way 1 has.
	wantTouch(t, &c, 10, api.Touch{Way: 0, Out: 2})
	wantTouch(t, &c, 14, api.Touch{Way: 0, Out: 10})
	c.psel = api.PselMid
	// Ranks 3 3 from Rare; 18 has rank 2 as Static says, so way 1 goes next.
	wantTouch(t, &c, 18, api.Touch{Way: 0, Out: 14})
	wantTouch(t, &c, 22, api.Touch{Way: 1, Out: 6})
}

func TestImpossibleNumbersDoNotPanic(t *testing.T) {
	numbers := []int{-1 << 63, -1, 0, 3, 9, 1<<63 - 1}
	for _, sets := range numbers {
		for _, ways := range numbers {
			for _, policy := range numbers {
				c := New(sets, ways, policy)
				for _, line := range numbers {
					c.Touch(line)
					c.Remove(line)
				}
			}
		}
	}
	c := Cache{}
	c.Remove(5)
}
