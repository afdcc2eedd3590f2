// Package set: the ways of one set of a cache: which line is in which way, and which way is the victim.
package set

import "coherent/api"

// Empty stands for the line of a way that holds none.
const Empty = -1

// NoWay stands for the way of a line that is in none.
const NoWay = -1

// Set is the ways of one set; New makes it.
type Set struct {
	count int              // how many ways there are
	lines [api.MaxWays]int // the line in each way, or Empty
	ages  [api.MaxWays]int // how many other ways were touched later than this one
	ranks [api.MaxWays]int // of Static and Rare
}

// New makes a set of so many ways, all empty.
func New(ways int) Set {
	s := Set{count: possible(ways)}
	for way := 0; way < s.count; way++ {
		s.lines[way] = Empty
		// Ages have to differ from the start; which way has which is all one, as there is no victim before each was touched.
		s.ages[way] = way
	}
	return s
}

// possible keeps the number of ways within the arrays, so that no index can leave them.
func possible(ways int) int {
	if ways < 1 {
		return 1
	}
	if ways > api.MaxWays {
		return api.MaxWays
	}
	return ways
}

// Find tells the way that the line is in, or NoWay. Of Empty it tells the empty way with the lowest number.
func (s *Set) Find(line int) int {
	for way := 0; way < s.count; way++ {
		if s.lines[way] == line {
			return way
		}
	}
	return NoWay
}

// Found touches a way because its line was found.
func (s *Set) Found(way int) {
	if way < 0 || way >= s.count {
		return
	}
	s.touch(way)
	s.ranks[way] = foundRank
}

// Put puts a line that is in no way into one, with this rank. It tells the way and the line that had to go, or Empty.
func (s *Set) Put(policy int, line int, rank int) (int, int) {
	way := s.Find(Empty)
	if way == NoWay {
		way = s.victim(policy)
	}
	out := s.lines[way]
	s.lines[way] = line
	s.ranks[way] = rank
	s.touch(way)
	return way, out
}

// touch makes the way the youngest. Only ways that were younger grow older, so the ages stay below the number of ways however long the set is in use.
func (s *Set) touch(way int) {
	before := s.ages[way]
	for other := 0; other < s.count; other++ {
		if s.ages[other] < before {
			s.ages[other]++
		}
	}
	s.ages[way] = 0
}
