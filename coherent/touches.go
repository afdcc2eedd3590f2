package coherent

import (
	"coherent/api"
	"coherent/set"
)

// Touches plays one set by itself (P3).
func Touches(policy int, ways int, lines []int) ([]api.Touch, api.Errno) {
	wrong := checkTouches(policy, ways, lines)
	if wrong != api.OK {
		return nil, wrong
	}
	return touchAll(policy, ways, lines), api.OK
}

// checkTouches tells the first error, in the order that P3 names them.
func checkTouches(policy int, ways int, lines []int) api.Errno {
	if policy < api.Oldest || policy > api.Rare {
		return api.ErrPolicy
	}
	if !isSize(ways) {
		return api.ErrWays
	}
	if len(lines) > api.MaxTouch {
		return api.ErrLong
	}
	for _, line := range lines {
		if line < 0 {
			return api.ErrLine
		}
	}
	return api.OK
}

// touchAll touches the lines one after the other in a new set.
func touchAll(policy int, ways int, lines []int) []api.Touch {
	s := set.New(ways)
	ranks := set.Ranks{}
	answers := make([]api.Touch, len(lines))
	for i, line := range lines {
		answers[i] = s.Touch(policy, &ranks, line)
	}
	return answers
}
