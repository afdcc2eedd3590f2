package coherent_test

import (
	"testing"

	"coherent/api"
	"coherent/coherent"
)

// dueling is a machine of one core with a first cache of one way, so that a line is in the last cache alone once another was loaded.
func dueling(t *testing.T, lastSets int, lastWays int) *coherent.Machine {
	t.Helper()
	return newMachine(t, api.Config{Cores: 1, Sets: 1, Ways: 1, LastSets: lastSets, LastWays: lastWays, LastPolicy: api.Dueling})
}

func TestPselStaysWithinItsEnds(t *testing.T) {
	for _, lead := range []int{0, 4} {
		m := dueling(t, 8, 1)
		for i := range 20 {
			loadLines(t, m, 0, lead+8*(i%2))
			wantPsel(t, m, min(api.PselMax, api.PselMid+1+i))
		}
		loadLines(t, m, 0, 1)
		wantPsel(t, m, api.PselMax-1)
	}
	for _, lead := range []int{1, 5} {
		m := dueling(t, 8, 1)
		for i := range 20 {
			loadLines(t, m, 0, lead+8*(i%2))
			wantPsel(t, m, max(0, api.PselMid-1-i))
		}
		loadLines(t, m, 0, 0)
		wantPsel(t, m, 1)
	}
}

// Only a miss in the last cache moves PSEL, and only in the sets that are in the duel.
func TestPselMovesAtMissesAlone(t *testing.T) {
	m := dueling(t, 8, 8)
	loadLines(t, m, 0, 0, 8, 0, 8, 8, 0)
	wantPsel(t, m, api.PselMid+2)
	loadLines(t, m, 0, 2, 3, 6, 7, 10, 11, 14, 15, 2, 63)
	wantPsel(t, m, api.PselMid+2)
	loadLines(t, m, 0, 1, 5, 1, 5, 5)
	wantPsel(t, m, api.PselMid)
	evict(t, m, 0, 5)
	loadLines(t, m, 0, 5)
	wantPsel(t, m, api.PselMid)
}

// With one set there is Static alone; with two, Static and Rare.
func TestPselOfFewSets(t *testing.T) {
	m := dueling(t, 1, 8)
	loadLines(t, m, 0, 0, 1, 2, 3)
	wantPsel(t, m, api.PselMid+4)
	m = dueling(t, 2, 8)
	loadLines(t, m, 0, 2, 4, 6, 1)
	wantPsel(t, m, api.PselMid+2)
}

func TestPselWithoutDueling(t *testing.T) {
	for _, policy := range []int{api.Oldest, api.Tree, api.Static, api.Rare} {
		m := newMachine(t, api.Config{Cores: 1, Sets: 1, Ways: 1, LastSets: 4, LastWays: 2, LastPolicy: policy})
		loadLines(t, m, 0, 0, 4, 8, 12, 16)
		wantPsel(t, m, api.PselMid)
		loadLines(t, m, 0, 1, 5, 9, 13, 17, 21, 25)
		wantPsel(t, m, api.PselMid)
	}
}

// stays fills the two ways of a set, finds the first line again, loads three more, and tells whether the first is still there. With Static the ranks are 0 2, then 1 2, then 2 2, so the third line drives it out. With Rare its rank is 0, and the other's 3, all the time, or once 2 at an Often-th line, which is not enough.
func stays(t *testing.T, m *coherent.Machine, number int) bool {
	t.Helper()
	line := func(i int) int { return number + 8*i }
	loadLines(t, m, 0, line(0), line(1), line(0), line(2), line(3), line(4))
	s, e := m.Last(line(0))
	if e != api.OK {
		t.Errorf("P9: Last(%d): error %d", line(0), e)
	}
	return s != api.Away
}

// The line that was found stays for long in sets that do as Rare, and goes soon in those that do as Static.
func TestSetsDoAsTheDuelStands(t *testing.T) {
	for number := range 8 {
		for psel := 0; psel <= api.PselMax; psel++ {
			m := dueling(t, 8, 2)
			// The sets that are in the duel, but for the one that is asked, bring PSEL to where it shall be.
			up, down := 0, 1
			if number == up {
				up = 4
			}
			if number == down {
				down = 5
			}
			bringPsel(t, m, psel, up, down)
			rare := number == 1 || number == 5 || (number != 0 && number != 4 && psel > api.PselMid)
			if got := stays(t, m, number); got != rare {
				t.Errorf("Words: set %d, PSEL %d: the line that was found stays: %v, want %v", number, psel, got, rare)
			}
		}
	}
}

// bringPsel loads lines of the sets up and down, from the upper ones on, until PSEL is as wanted.
func bringPsel(t *testing.T, m *coherent.Machine, psel int, up int, down int) {
	t.Helper()
	for i := 0; i < 20; i++ {
		c, _ := m.Counts()
		if c.Psel < psel {
			loadLines(t, m, 0, up+8*(7-i%3))
		}
		if c.Psel > psel {
			loadLines(t, m, 0, down+8*(7-i%3))
		}
	}
	wantPsel(t, m, psel)
}
