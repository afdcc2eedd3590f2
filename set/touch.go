package set

import "coherent/api"

// Touch finds the line and touches its way, or puts the line in as the policy says.
func (s *Set) Touch(policy int, ranks *Ranks, line int) api.Touch {
	way := s.Find(line)
	if way != NoWay {
		s.Found(way)
		return api.Touch{Hit: true, Way: way, Out: Empty}
	}
	rank := ranks.Next(policy)
	way, out := s.Put(policy, line, rank)
	return api.Touch{Hit: false, Way: way, Out: out}
}

// Remove empties the way that the line is in, if there is one. No way is touched by that.
func (s *Set) Remove(line int) {
	way := s.Find(line)
	if way == NoWay {
		return
	}
	s.lines[way] = Empty
}
