package coherent

import (
	"coherent/api"
	"coherent/set"
)

// Touches plays one set by itself (P3).
func Touches(policy int, ways int, lines []int) ([]api.Touch, api.Errno) {
	wrong := checkTouches(policy, ways, lines)
	if wrong != api.OK {
		return nil, wrong
	}
	return touchAll(policy, ways, lines), api.OK
}

// checkTouches tells the first error, in the order that P3 names them.
func checkTouches(policy int, ways int, lines []int) api.Errno {
	if policy < api.Oldest || policy > api.Rare {
		return api.ErrPolicy
	}
	if !isSize(ways) {
		return api.ErrWays
	}
	if len(lines) > api.MaxTouch {
		return api.ErrLong
	}
	for _, line := range lines {
		if line < 0 {
			return api.ErrLine
		}
	}
	return api.OK
}

// isSize tells whether a cache can have so many sets, or a set so many ways.
func isSize(n int) bool {
	return n == 1 || n == 2 || n == 4 || n == 8
}

// touchAll touches the lines one after the other in a new set.
func touchAll(policy int, ways int, lines []int) []api.Touch {
	s := set.New(ways)
	ranks := set.Ranks{}
	answers := make([]api.Touch, len(lines))
	for i, line := range lines {
		answers[i] = touch(&s, &ranks, policy, line)
	}
	return answers
}

// touch finds the line in the set, or puts it in.
func touch(s *set.Set, ranks *set.Ranks, policy int, line int) api.Touch {
	way := s.Find(line)
	if way != set.NoWay {
		s.Found(way)
		return api.Touch{Hit: true, Way: way, Out: set.Empty}
	}
	rank := ranks.Next(policy)
	way, out := s.Put(policy, line, rank)
	return api.Touch{Hit: false, Way: way, Out: out}
}
