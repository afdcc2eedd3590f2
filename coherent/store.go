package coherent

import "coherent/api"

// Store writes a word (P7).
func (m *Machine) Store(core int, addr int, value int) (int, api.Errno) {
	wrong := m.checkCoreAddr(core, addr)
	if wrong != api.OK {
		return 0, wrong
	}
	place := m.storeLine(core, addr/api.Words)
	m.words[addr] = value
	m.counts.Stores++
	m.countPlace(place)
	return place, api.OK
}

// storeLine sees to it that the core has the line Dirty, and tells where it was found.
func (m *Machine) storeLine(core int, line int) int {
	state := m.states[core][line]
	if state == api.None {
		place := m.fetch(line)
		m.take(core, line)
		m.keep(core, line, api.Dirty)
		return place
	}
	m.firsts[core].Touch(line)
	if state == api.Shared {
		m.counts.Upgrades++
		m.take(core, line)
	}
	m.states[core][line] = api.Dirty
	return api.First
}

// take ends the copies that other cores have of a line which this one stores to.
func (m *Machine) take(core int, line int) {
	for other := 0; other < api.MaxCores; other++ {
		if other != core && m.states[other][line] != api.None {
			m.lose(other, line)
			m.counts.Takens++
		}
	}
}
