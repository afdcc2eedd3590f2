package coherent_test

import "coherent/api"

// model plays one set as the words of the document say it, with a clock in place of ages and one step at a time.
type model struct {
	lines []int // -1: empty
	times []int // when each way was touched
	ranks []int
	clock int
}

func newModel(ways int) *model {
	m := &model{lines: make([]int, ways), times: make([]int, ways), ranks: make([]int, ways)}
	for way := range m.lines {
		m.lines[way] = -1
	}
	return m
}

func (m *model) stamp(way int) {
	m.clock++
	m.times[way] = m.clock
}

// touch counts in rares the lines that were put in as Rare says.
func (m *model) touch(policy int, rares *int, line int) api.Touch {
	for way, l := range m.lines {
		if l == line {
			m.stamp(way)
			m.ranks[way] = 0
			return api.Touch{Hit: true, Way: way, Out: -1}
		}
	}
	way := m.place(policy)
	out := m.lines[way]
	m.lines[way] = line
	m.stamp(way)
	m.ranks[way] = 2
	if policy == api.Rare {
		*rares++
		if *rares%8 != 0 {
			m.ranks[way] = 3
		}
	}
	return api.Touch{Way: way, Out: out}
}

func (m *model) remove(line int) {
	for way, l := range m.lines {
		if l == line {
			m.lines[way] = -1
		}
	}
}

func (m *model) place(policy int) int {
	for way, l := range m.lines {
		if l == -1 {
			return way
		}
	}
	switch policy {
	case api.Oldest:
		oldest := 0
		for way := range m.times {
			if m.times[way] < m.times[oldest] {
				oldest = way
			}
		}
		return oldest
	case api.Tree:
		left := make([]int, len(m.lines))
		for way := range left {
			left[way] = way
		}
		return m.halve(left)
	}
	for {
		for way, rank := range m.ranks {
			if rank == 3 {
				return way
			}
		}
		for way := range m.ranks {
			m.ranks[way]++
		}
	}
}

func (m *model) halve(left []int) int {
	if len(left) == 1 {
		return left[0]
	}
	lower, upper := left[:len(left)/2], left[len(left)/2:]
	if m.lastTime(lower) > m.lastTime(upper) {
		return m.halve(upper)
	}
	return m.halve(lower)
}

func (m *model) lastTime(ways []int) int {
	last := 0
	for _, way := range ways {
		last = max(last, m.times[way])
	}
	return last
}

// modelCache plays one cache.
type modelCache struct {
	policy int
	sets   []*model
	rares  int
	psel   int
}

func newModelCache(sets int, ways int, policy int) *modelCache {
	c := &modelCache{policy: policy, psel: api.PselMid}
	for range sets {
		c.sets = append(c.sets, newModel(ways))
	}
	return c
}

func (c *modelCache) touch(line int) api.Touch {
	number := line % len(c.sets)
	policy, move := c.policy, 0
	if c.policy == api.Dueling {
		switch number {
		case 0, 4:
			policy, move = api.Static, 1
		case 1, 5:
			policy, move = api.Rare, -1
		default:
			policy = api.Static
			if c.psel >= 8 {
				policy = api.Rare
			}
		}
	}
	touched := c.sets[number].touch(policy, &c.rares, line)
	if !touched.Hit {
		c.psel = min(15, max(0, c.psel+move))
	}
	return touched
}

func (c *modelCache) remove(line int) {
	c.sets[line%len(c.sets)].remove(line)
}

// modelCopy is a line in a cache. Each copy has words of its own, so that a word that is not handed on is missed.
type modelCopy struct {
	state int
	words [api.Words]int
}

// modelMachine plays the machine.
type modelMachine struct {
	config api.Config
	firsts []*modelCache
	last   *modelCache
	held   [api.MaxCores][api.Lines]*modelCopy
	lasts  [api.Lines]*modelCopy
	memory [api.Lines][api.Words]int
	counts api.Counts
}

func newModelMachine(c api.Config) *modelMachine {
	m := &modelMachine{config: c}
	m.clear()
	return m
}

func (m *modelMachine) clear() {
	c := m.config
	m.firsts = nil
	for range c.Cores {
		m.firsts = append(m.firsts, newModelCache(c.Sets, c.Ways, c.Policy))
	}
	m.last = newModelCache(c.LastSets, c.LastWays, c.LastPolicy)
	m.held = [api.MaxCores][api.Lines]*modelCopy{}
	m.lasts = [api.Lines]*modelCopy{}
}

func (m *modelMachine) state(core int, line int) int {
	if m.held[core][line] == nil {
		return api.None
	}
	return m.held[core][line].state
}

func (m *modelMachine) lastState(line int) int {
	if m.lasts[line] == nil {
		return api.Away
	}
	return m.lasts[line].state
}

func (m *modelMachine) load(core int, addr int) (int, int) {
	line, word := addr/4, addr%4
	m.counts.Loads++
	if m.held[core][line] != nil {
		m.firsts[core].touch(line)
		m.counts.Firsts++
		return m.held[core][line].words[word], api.First
	}
	place := m.fetch(line)
	state := api.Alone
	for other := range m.config.Cores {
		if m.held[other][line] != nil {
			m.clean(other, line)
			m.held[other][line].state = api.Shared
			state = api.Shared
		}
	}
	touched := m.firsts[core].touch(line)
	if touched.Out != -1 {
		m.evict(core, touched.Out)
	}
	m.held[core][line] = &modelCopy{state: state, words: m.lasts[line].words}
	return m.held[core][line].words[word], place
}

func (m *modelMachine) fetch(line int) int {
	touched := m.last.touch(line)
	if touched.Hit {
		m.counts.Lasts++
		return api.Last
	}
	m.counts.Fetches++
	if touched.Out != -1 {
		for core := range m.config.Cores {
			if m.held[core][touched.Out] != nil {
				m.evict(core, touched.Out)
				m.counts.Backs++
			}
		}
		m.write(touched.Out)
		m.lasts[touched.Out] = nil
	}
	m.lasts[line] = &modelCopy{state: api.Clean, words: m.memory[line]}
	return api.Memory
}

// clean carries the words of a Dirty copy to the last cache.
func (m *modelMachine) clean(core int, line int) {
	if m.held[core][line].state == api.Dirty {
		m.lasts[line].words = m.held[core][line].words
		m.lasts[line].state = api.Changed
	}
}

func (m *modelMachine) write(line int) {
	if m.lasts[line].state == api.Changed {
		m.memory[line] = m.lasts[line].words
		m.counts.Writes++
	}
}

func (m *modelMachine) evict(core int, line int) {
	if m.held[core][line] == nil {
		return
	}
	m.clean(core, line)
	m.held[core][line] = nil
	m.firsts[core].remove(line)
}

func (m *modelMachine) store(core int, addr int, value int) int {
	line, word := addr/4, addr%4
	m.counts.Stores++
	place := api.First
	switch m.state(core, line) {
	case api.Dirty, api.Alone:
		m.counts.Firsts++
		m.firsts[core].touch(line)
	case api.Shared:
		m.counts.Firsts++
		m.firsts[core].touch(line)
		m.counts.Upgrades++
		m.takeFromOthers(core, line)
	default:
		place = m.fetch(line)
		m.takeFromOthers(core, line)
		touched := m.firsts[core].touch(line)
		if touched.Out != -1 {
			m.evict(core, touched.Out)
		}
		m.held[core][line] = &modelCopy{words: m.lasts[line].words}
	}
	m.held[core][line].state = api.Dirty
	m.held[core][line].words[word] = value
	return place
}

func (m *modelMachine) takeFromOthers(core int, line int) {
	for other := range m.config.Cores {
		if other == core || m.held[other][line] == nil {
			continue
		}
		m.evict(other, line)
		m.counts.Takens++
	}
}

func (m *modelMachine) drain() {
	for line := range m.lasts {
		if m.lasts[line] == nil {
			continue
		}
		for core := range m.config.Cores {
			if m.held[core][line] != nil {
				m.clean(core, line)
			}
		}
		m.write(line)
	}
	m.clear()
}
