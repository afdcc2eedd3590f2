package coherent_test

import "coherent/api"

// model plays one set as the words of the document say it, with a clock in place of ages and one step at a time, to hold Touches against.
type model struct {
	policy int
	lines  []int // -1: empty
	times  []int // when each way was touched
	ranks  []int
	clock  int
	puts   int
}

func newModel(policy int, ways int) *model {
	m := &model{policy: policy, lines: make([]int, ways), times: make([]int, ways), ranks: make([]int, ways)}
	for way := range m.lines {
		m.lines[way] = -1
	}
	return m
}

func (m *model) stamp(way int) {
	m.clock++
	m.times[way] = m.clock
}

func (m *model) touch(line int) api.Touch {
	for way, l := range m.lines {
		if l == line {
			m.stamp(way)
			m.ranks[way] = 0
			return api.Touch{Hit: true, Way: way, Out: -1}
		}
	}
	way := m.place()
	out := m.lines[way]
	m.lines[way] = line
	m.stamp(way)
	m.puts++
	m.ranks[way] = 2
	if m.policy == api.Rare && m.puts%8 != 0 {
		m.ranks[way] = 3
	}
	return api.Touch{Way: way, Out: out}
}

func (m *model) place() int {
	for way, l := range m.lines {
		if l == -1 {
			return way
		}
	}
	switch m.policy {
	case api.Oldest:
		oldest := 0
		for way := range m.times {
			if m.times[way] < m.times[oldest] {
				oldest = way
			}
		}
		return oldest
	case api.Tree:
		left := make([]int, len(m.lines))
		for way := range left {
			left[way] = way
		}
		return m.halve(left)
	}
	for {
		for way, rank := range m.ranks {
			if rank == 3 {
				return way
			}
		}
		for way := range m.ranks {
			m.ranks[way]++
		}
	}
}

func (m *model) halve(left []int) int {
	if len(left) == 1 {
		return left[0]
	}
	lower, upper := left[:len(left)/2], left[len(left)/2:]
	if m.lastTime(lower) > m.lastTime(upper) {
		return m.halve(upper)
	}
	return m.halve(lower)
}

func (m *model) lastTime(ways []int) int {
	last := 0
	for _, way := range ways {
		last = max(last, m.times[way])
	}
	return last
}
