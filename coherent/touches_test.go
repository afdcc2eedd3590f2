package coherent_test

import (
	"fmt"
	"slices"
	"strings"
	"testing"

	"coherent/api"
	"coherent/coherent"
)

const (
	biggest  = 1<<63 - 1
	smallest = -1 << 63
)

var policies = []int{api.Oldest, api.Tree, api.Static, api.Rare}
var sizes = []int{1, 2, 4, 8}

// told writes the answers as the document's table does: "no 0 -1; hit 0 -1".
func told(answers []api.Touch) string {
	var parts []string
	for _, a := range answers {
		word := "no"
		if a.Hit {
			word = "hit"
		}
		parts = append(parts, fmt.Sprintf("%s %d %d", word, a.Way, a.Out))
	}
	return strings.Join(parts, "; ")
}

// upTo is the lines from first to last.
func upTo(first int, last int) []int {
	var lines []int
	for line := first; line <= last; line++ {
		lines = append(lines, line)
	}
	return lines
}

func wantTouches(t *testing.T, policy int, ways int, lines []int, want string) {
	t.Helper()
	answers, e := coherent.Touches(policy, ways, lines)
	if got := told(answers); got != want || e != api.OK {
		t.Errorf("P3: Touches(%d, %d, %v)\n got %s (error %d)\nwant %s", policy, ways, lines, got, e, want)
	}
}

func TestTouchesExamples(t *testing.T) {
	wantTouches(t, api.Oldest, 2, []int{1, 2, 1, 3, 2}, "no 0 -1; no 1 -1; hit 0 -1; no 1 2; no 0 1")
	wantTouches(t, api.Tree, 4, []int{1, 2, 3, 4, 1, 5, 6}, "no 0 -1; no 1 -1; no 2 -1; no 3 -1; hit 0 -1; no 2 3; no 1 2")
	wantTouches(t, api.Static, 2, []int{1, 2, 1, 3, 2}, "no 0 -1; no 1 -1; hit 0 -1; no 1 2; no 1 3")
	wantTouches(t, api.Rare, 2, []int{1, 2, 1, 3, 4}, "no 0 -1; no 1 -1; hit 0 -1; no 1 2; no 1 3")
}

func TestTouchesOneWay(t *testing.T) {
	for _, policy := range policies {
		wantTouches(t, policy, 1, []int{0, 0, 3, 0, 3, 3}, "no 0 -1; hit 0 -1; no 0 0; no 0 3; no 0 0; hit 0 -1")
	}
}

func TestTouchesOldestEightWays(t *testing.T) {
	lines := append(upTo(1, 8), 1, 3, 9, 10, 11, 2)
	wantTouches(t, api.Oldest, 8, lines,
		"no 0 -1; no 1 -1; no 2 -1; no 3 -1; no 4 -1; no 5 -1; no 6 -1; no 7 -1; "+
			"hit 0 -1; hit 2 -1; no 1 2; no 3 4; no 4 5; no 5 6")
}

func TestTouchesTreeEightWays(t *testing.T) {
	wantTouches(t, api.Tree, 8, upTo(1, 16),
		"no 0 -1; no 1 -1; no 2 -1; no 3 -1; no 4 -1; no 5 -1; no 6 -1; no 7 -1; "+
			"no 0 1; no 4 5; no 2 3; no 6 7; no 1 2; no 5 6; no 3 4; no 7 8")
}

func TestTouchesTreeTwoWaysIsOldest(t *testing.T) {
	lines := []int{1, 2, 1, 3, 2, 2, 4, 3, 4, 1}
	tree, _ := coherent.Touches(api.Tree, 2, lines)
	oldest, _ := coherent.Touches(api.Oldest, 2, lines)
	if len(tree) != len(lines) || !slices.Equal(tree, oldest) {
		t.Errorf("P3: Tree %s, Oldest %s", told(tree), told(oldest))
	}
}

func TestTouchesStaticRanks(t *testing.T) {
	// Ranks: 2 2 2 2 when full; 0 2 0 2 after the hits; 1 2 1 3 after line 5; 1 2 1 2 after 6; 2 2 2 3 after 7.
	wantTouches(t, api.Static, 4, []int{1, 2, 3, 4, 1, 3, 5, 6, 7, 8},
		"no 0 -1; no 1 -1; no 2 -1; no 3 -1; hit 0 -1; hit 2 -1; no 1 2; no 3 4; no 1 5; no 3 6")
	// All found: all ranks are 0 and go up by three, the lowest way goes; the other has rank 3 then.
	wantTouches(t, api.Static, 2, []int{1, 2, 2, 1, 3, 4, 5},
		"no 0 -1; no 1 -1; hit 1 -1; hit 0 -1; no 0 1; no 1 2; no 0 3")
}

// The 8th line stays behind with rank 2, so the other way goes until the 16th has rank 2 too.
func TestTouchesRareEighthAndSixteenth(t *testing.T) {
	wantTouches(t, api.Rare, 2, upTo(1, 18),
		"no 0 -1; no 1 -1; no 0 1; no 0 3; no 0 4; no 0 5; no 0 6; no 0 7; "+
			"no 1 2; no 1 9; no 1 10; no 1 11; no 1 12; no 1 13; no 1 14; no 1 15; "+
			"no 0 8; no 0 17")
}

// Line 1 has rank 0 from its hits, and goes up by one behind the 8th, 16th and 24th line alone.
func TestTouchesRareDoesNotCountHits(t *testing.T) {
	lines := append([]int{1, 1, 1}, upTo(2, 26)...)
	answers, e := coherent.Touches(api.Rare, 2, lines)
	if e != api.OK || len(answers) != len(lines) {
		t.Fatalf("P3: %d answers, error %d", len(answers), e)
	}
	for i := 4; i < len(lines); i++ {
		want := api.Touch{Way: 1, Out: lines[i] - 1}
		if lines[i] == 25 {
			want = api.Touch{Way: 0, Out: 1}
		}
		if lines[i] == 26 {
			want = api.Touch{Way: 0, Out: 25}
		}
		if answers[i] != want {
			t.Errorf("P3: Rare, line %d: %v, want %v", lines[i], answers[i], want)
		}
	}
}

func TestTouchesNoLines(t *testing.T) {
	for _, policy := range policies {
		for _, ways := range sizes {
			wantTouches(t, policy, ways, nil, "")
			wantTouches(t, policy, ways, []int{}, "")
		}
	}
}

func TestTouchesLinesAboveLines(t *testing.T) {
	for _, policy := range policies {
		wantTouches(t, policy, 4, []int{api.Lines, biggest, 0, api.Lines - 1, biggest, api.Lines},
			"no 0 -1; no 1 -1; no 2 -1; no 3 -1; hit 1 -1; hit 0 -1")
		wantTouches(t, policy, 1, []int{0, api.Lines, biggest, 1 << 40, biggest},
			"no 0 -1; no 0 0; no 0 64; no 0 9223372036854775807; no 0 1099511627776")
	}
}

func TestTouchesMaxTouch(t *testing.T) {
	for _, policy := range policies {
		for _, ways := range sizes {
			full := upTo(1, api.MaxTouch)
			answers, e := coherent.Touches(policy, ways, full)
			if e != api.OK || len(answers) != api.MaxTouch {
				t.Errorf("P3: Touches(%d, %d, MaxTouch lines): %d answers, error %d", policy, ways, len(answers), e)
			}
			answers, e = coherent.Touches(policy, ways, append(full, 1))
			if e != api.ErrLong || answers != nil {
				t.Errorf("P3: Touches(%d, %d, one line more than MaxTouch): %d answers, error %d", policy, ways, len(answers), e)
			}
		}
	}
}

func TestTouchesErrors(t *testing.T) {
	long := make([]int, api.MaxTouch+1)
	longAndBelow := slices.Clone(long)
	longAndBelow[0] = -1
	lastBelow := make([]int, api.MaxTouch)
	lastBelow[api.MaxTouch-1] = -1
	for _, c := range []struct {
		policy, ways int
		lines        []int
		want         api.Errno
	}{
		{-1, 2, nil, api.ErrPolicy}, {api.Dueling, 2, nil, api.ErrPolicy}, {5, 2, nil, api.ErrPolicy},
		{smallest, 2, nil, api.ErrPolicy}, {biggest, 2, nil, api.ErrPolicy},
		{api.Dueling, 3, longAndBelow, api.ErrPolicy}, {-1, 0, nil, api.ErrPolicy},
		{-1, 2, long, api.ErrPolicy}, {-1, 2, []int{-1}, api.ErrPolicy},
		{api.Rare, 3, longAndBelow, api.ErrWays}, {api.Tree, 9, long, api.ErrWays}, {api.Static, 0, []int{-1}, api.ErrWays},
		{api.Oldest, 1, longAndBelow, api.ErrLong}, {api.Static, 8, long, api.ErrLong},
		{api.Oldest, 1, []int{-1}, api.ErrLine}, {api.Tree, 2, []int{3, smallest, 3}, api.ErrLine},
		{api.Static, 4, lastBelow, api.ErrLine}, {api.Rare, 8, []int{0, 1, 2, -1}, api.ErrLine},
	} {
		answers, e := coherent.Touches(c.policy, c.ways, c.lines)
		if answers != nil || e != c.want {
			t.Errorf("P3: Touches(%d, %d, %d lines) = %v, %d, want nil, %d", c.policy, c.ways, len(c.lines), answers, e, c.want)
		}
	}
}

func TestTouchesWrongWays(t *testing.T) {
	wrong := append(upTo(-9, 20), 32, 64, 1<<40, 1<<62, biggest, smallest, smallest+1, smallest+8)
	for _, policy := range policies {
		for _, ways := range wrong {
			if slices.Contains(sizes, ways) {
				continue
			}
			answers, e := coherent.Touches(policy, ways, []int{1, 2})
			if answers != nil || e != api.ErrWays {
				t.Errorf("P3: Touches(%d, %d, 1 2) = %v, %d, want nil, ErrWays", policy, ways, answers, e)
			}
		}
	}
}

func TestTouchesLeavesWhatIsHandedIn(t *testing.T) {
	for _, policy := range policies {
		room := []int{1, 2, 3, 1, 4, 77, 78, 79}
		before := slices.Clone(room)
		answers, _ := coherent.Touches(policy, 2, room[:5])
		if !slices.Equal(room, before) {
			t.Errorf("P2: policy %d: the list that was handed in is %v, was %v", policy, room, before)
		}
		kept := slices.Clone(answers)
		for i := range room {
			room[i] = 9
		}
		if len(kept) != 5 || !slices.Equal(answers, kept) {
			t.Errorf("P2: policy %d: the answers changed with the list that was handed in", policy)
		}
	}
}

func TestTouchesAnswersAreTheCallers(t *testing.T) {
	lines := []int{1, 2, 3, 1, 2, 4}
	for _, policy := range policies {
		first, _ := coherent.Touches(policy, 2, lines)
		want := slices.Clone(first)
		second, _ := coherent.Touches(policy, 2, lines)
		for i := range second[:cap(second)] {
			second[:cap(second)][i] = api.Touch{Hit: true, Way: 55, Out: 55}
		}
		third, _ := coherent.Touches(policy, 2, lines)
		if len(want) != len(lines) || !slices.Equal(first, want) || !slices.Equal(third, want) {
			t.Errorf("P2: policy %d: %s and %s, want %s", policy, told(first), told(third), told(want))
		}
	}
}

// wantModel holds one call against the model.
func wantModel(t *testing.T, policy int, ways int, lines []int) {
	t.Helper()
	m := newModel(ways)
	rares := 0
	var want []api.Touch
	for _, line := range lines {
		want = append(want, m.touch(policy, &rares, line))
	}
	got, e := coherent.Touches(policy, ways, lines)
	if e != api.OK || !slices.Equal(got, want) {
		t.Fatalf("P3: Touches(%d, %d, %v)\n got %s (error %d)\nwant %s", policy, ways, lines, told(got), e, told(want))
	}
}

// Every list of 7 lines out of 5.
func TestTouchesAllShortLists(t *testing.T) {
	const length, kinds, lists = 7, 5, 78125
	lines := make([]int, length)
	for n := 0; n < lists; n++ {
		rest := n
		for i := range lines {
			lines[i] = rest % kinds
			rest = rest / kinds
		}
		for _, policy := range policies {
			wantModel(t, policy, 2, lines)
			wantModel(t, policy, 4, lines)
		}
	}
}

// Long lists from a fixed rule, of more and less lines than there are ways.
func TestTouchesLongLists(t *testing.T) {
	seed := uint32(1)
	lines := make([]int, api.MaxTouch)
	for round := 0; round < 300; round++ {
		for _, ways := range sizes {
			kinds := uint32(ways + 1 + round%(2*ways))
			for i := range lines {
				seed = seed*1664525 + 1013904223
				lines[i] = int((seed >> 16) % kinds)
			}
			for _, policy := range policies {
				wantModel(t, policy, ways, lines)
			}
		}
	}
}
