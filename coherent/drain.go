package coherent

import (
	"coherent/api"
	"coherent/cache"
)

// Drain empties all caches (P10).
func (m *Machine) Drain() api.Errno {
	if m == nil {
		return api.ErrNil
	}
	for line := 0; line < api.Lines; line++ {
		for core := 0; core < api.MaxCores; core++ {
			m.handOn(core, line)
		}
		m.writeBack(line)
	}
	m.empty()
	return api.OK
}

// writeBack writes the line to the memory, if it is newer in the last cache.
func (m *Machine) writeBack(line int) {
	if m.lasts[line] != api.Changed {
		return
	}
	for addr := line * api.Words; addr < (line+1)*api.Words; addr++ {
		m.memory[addr] = m.words[addr]
	}
	m.counts.Writes++
}

// empty makes all caches new.
func (m *Machine) empty() {
	c := m.config
	for core := 0; core < c.Cores; core++ {
		m.firsts[core] = cache.New(c.Sets, c.Ways, c.Policy)
	}
	m.last = cache.New(c.LastSets, c.LastWays, c.LastPolicy)
	m.states = [api.MaxCores][api.Lines]int{}
	m.lasts = [api.Lines]int{}
}
