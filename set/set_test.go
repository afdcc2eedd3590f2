package set

import (
	"testing"

	"coherent/api"
)

func TestNewIsEmpty(t *testing.T) {
	for _, ways := range []int{1, 2, 4, 8} {
		s := New(ways)
		if way := s.Find(Empty); way != 0 {
			t.Errorf("%d ways: lowest empty way %d, want 0", ways, way)
		}
		if way := s.Find(0); way != NoWay {
			t.Errorf("%d ways: line 0 is in way %d of an empty set", ways, way)
		}
	}
}

func TestPutFillsLowestEmptyWay(t *testing.T) {
	for _, policy := range []int{api.Oldest, api.Tree, api.Static, api.Rare} {
		s := New(8)
		for line := 0; line < 8; line++ {
			way, out := s.Put(policy, 100+line, usualRank)
			if way != line || out != Empty {
				t.Errorf("policy %d: put %d: way %d, out %d", policy, line, way, out)
			}
			if found := s.Find(100 + line); found != line {
				t.Errorf("policy %d: line %d found in way %d, want %d", policy, 100+line, found, line)
			}
		}
		if way := s.Find(Empty); way != NoWay {
			t.Errorf("policy %d: way %d of a full set is empty", policy, way)
		}
	}
}

func TestAgesStayInOrder(t *testing.T) {
	s := New(8)
	for i := 0; i < 5000; i++ {
		s.Found(i * i * 5 % 8)
		seen := [8]bool{}
		for _, age := range s.ages {
			if age < 0 || age > 7 || seen[age] {
				t.Fatalf("touch %d: ages %v", i, s.ages)
			}
			seen[age] = true
		}
	}
}

func TestRanksAreRaisedForVictimOnly(t *testing.T) {
	s := New(2)
	s.Put(api.Static, 1, usualRank)
	s.Put(api.Static, 2, usualRank)
	s.Found(0)
	if s.ranks[0] != 0 || s.ranks[1] != 2 {
		t.Fatalf("before: ranks %v", s.ranks)
	}
	if way := s.victim(api.Static); way != 1 {
		t.Errorf("victim %d, want 1", way)
	}
	if s.ranks[0] != 1 || s.ranks[1] != 3 {
		t.Errorf("after: ranks %v, want 1 3", s.ranks)
	}
	if way := s.victim(api.Rare); way != 1 || s.ranks[0] != 1 || s.ranks[1] != 3 {
		t.Errorf("again: victim %d, ranks %v, want 1, 1 3", way, s.ranks)
	}
}

func TestImpossibleNumbersDoNotPanic(t *testing.T) {
	for _, ways := range []int{-1 << 63, -1, 0, 9, 1<<63 - 1} {
		s := New(ways)
		for line := 0; line < 20; line++ {
			s.Put(line%5, line, usualRank)
		}
	}
	s := New(4)
	before := s
	for _, way := range []int{-1 << 63, NoWay, 4, 8, 1<<63 - 1} {
		s.Found(way)
	}
	if s != before {
		t.Errorf("Found of no way changed the set: %v, before %v", s, before)
	}
}

func TestRemoveEmptiesOneWayAndTouchesNone(t *testing.T) {
	s := New(4)
	for line := 1; line <= 4; line++ {
		s.Put(api.Static, line, usualRank)
	}
	s.Found(1)
	before := s
	s.Remove(3)
	if s.Find(3) != NoWay || s.Find(Empty) != 2 || s.ages != before.ages || s.ranks != before.ranks {
		t.Errorf("Remove(3): %v, before %v", s, before)
	}
	s.lines[2] = 3
	if s != before {
		t.Errorf("Remove(3) changed other ways: %v, before %v", s, before)
	}
}

func TestRemoveOfALineThatIsNotThere(t *testing.T) {
	for _, ways := range []int{1, 2, 4, 8} {
		s := New(ways)
		s.Put(api.Oldest, 5, usualRank)
		before := s
		for _, line := range []int{-1 << 63, Empty, 0, 4, 6, 1<<63 - 1} {
			s.Remove(line)
		}
		if s != before {
			t.Errorf("%d ways: %v, before %v", ways, s, before)
		}
	}
}

// A way that was emptied is filled before any line has to go, and is the youngest then.
func TestPutFillsTheRemovedWay(t *testing.T) {
	for _, policy := range []int{api.Oldest, api.Tree, api.Static, api.Rare} {
		s := New(4)
		r := Ranks{}
		for line := 1; line <= 4; line++ {
			s.Touch(policy, &r, line)
		}
		s.Remove(4)
		s.Remove(2)
		if got := s.Touch(policy, &r, 5); got != (api.Touch{Way: 1, Out: Empty}) {
			t.Errorf("policy %d: line 5: %+v, want way 1, none out", policy, got)
		}
		if got := s.Touch(policy, &r, 6); got != (api.Touch{Way: 3, Out: Empty}) {
			t.Errorf("policy %d: line 6: %+v, want way 3, none out", policy, got)
		}
		if got := s.Touch(policy, &r, 7); got != (api.Touch{Way: 0, Out: 1}) {
			t.Errorf("policy %d: line 7: %+v, want way 0, line 1 out", policy, got)
		}
	}
}

func TestTouchFindsOrPutsIn(t *testing.T) {
	s := New(2)
	r := Ranks{}
	for i, want := range []api.Touch{{Way: 0, Out: Empty}, {Way: 1, Out: Empty}, {Hit: true, Way: 0, Out: Empty}, {Way: 1, Out: 2}} {
		line := []int{1, 2, 1, 3}[i]
		if got := s.Touch(api.Rare, &r, line); got != want {
			t.Errorf("touch %d, line %d: %+v, want %+v", i, line, got, want)
		}
	}
	if s.ranks[0] != foundRank || s.ranks[1] != victimRank || r.rares != 3 {
		t.Errorf("ranks %v, %d rares", s.ranks, r.rares)
	}
}

func TestRanksNext(t *testing.T) {
	r := Ranks{}
	for put := 1; put <= 40; put++ {
		for _, policy := range []int{api.Oldest, api.Tree, api.Static} {
			if rank := r.Next(policy); rank != 2 {
				t.Errorf("policy %d: rank %d, want 2", policy, rank)
			}
		}
		want := 3
		if put%8 == 0 {
			want = 2
		}
		if rank := r.Next(api.Rare); rank != want {
			t.Errorf("Rare, line %d that is put in: rank %d, want %d", put, rank, want)
		}
	}
}
