package set

import "coherent/api"

// victim tells the way whose line has to go. It is asked only when no way is empty.
func (s *Set) victim(policy int) int {
	switch policy {
	case api.Oldest:
		return s.oldest()
	case api.Tree:
		return s.untouchedLeaf()
	}
	return s.highestRank()
}

// oldest tells the way that was touched the longest ago.
func (s *Set) oldest() int {
	found := 0
	for way := 0; way < s.count; way++ {
		if s.ages[way] > s.ages[found] {
			found = way
		}
	}
	return found
}

// youngest tells the way that was touched last, of those from low to below end.
func (s *Set) youngest(low int, end int) int {
	found := low
	for way := low; way < end; way++ {
		if s.ages[way] < s.ages[found] {
			found = way
		}
	}
	return found
}

// untouchedLeaf goes to the half that was not touched last until one way is left.
func (s *Set) untouchedLeaf() int {
	low := 0
	for half := s.count / 2; half > 0; half = half / 2 {
		last := s.youngest(low, low+2*half)
		if last < low+half {
			low = low + half
		}
	}
	return low
}

// highestRank lifts all ranks until one is victimRank. They go up together, so the first way to get there is the lowest of those that stand highest now.
func (s *Set) highestRank() int {
	found := 0
	for way := 0; way < s.count; way++ {
		if s.ranks[way] > s.ranks[found] {
			found = way
		}
	}
	lift := victimRank - s.ranks[found]
	for way := 0; way < s.count; way++ {
		s.ranks[way] = s.ranks[way] + lift
	}
	return found
}
