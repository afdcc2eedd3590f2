package coherent

import (
	"coherent/api"
	"coherent/set"
)

// Load reads a word (P6).
func (m *Machine) Load(core int, addr int) (int, int, api.Errno) {
	wrong := m.checkCoreAddr(core, addr)
	if wrong != api.OK {
		return 0, 0, wrong
	}
	place := m.loadLine(core, addr/api.Words)
	m.counts.Loads++
	m.countPlace(place)
	return m.words[addr], place, api.OK
}

// loadLine sees to it that the core holds the line, and tells where it was found.
func (m *Machine) loadLine(core int, line int) int {
	if m.states[core][line] != api.None {
		m.firsts[core].Touch(line)
		return api.First
	}
	place := m.fetch(line)
	state := api.Alone
	if m.share(line) {
		state = api.Shared
	}
	m.keep(core, line, state)
	return place
}

// fetch sees to it that the last cache holds the line, and tells where it was found.
func (m *Machine) fetch(line int) int {
	touched := m.last.Touch(line)
	if touched.Hit {
		return api.Last
	}
	if touched.Out != set.Empty {
		m.drop(touched.Out)
	}
	m.lasts[line] = api.Clean
	return api.Memory
}

// drop ends all copies of a line whose way in the last cache another line has taken.
func (m *Machine) drop(line int) {
	for core := 0; core < api.MaxCores; core++ {
		if m.states[core][line] != api.None {
			m.lose(core, line)
			m.counts.Backs++
		}
	}
	m.writeBack(line)
	m.lasts[line] = api.Away
}

// share makes all copies of the line Shared, and tells whether there are any.
func (m *Machine) share(line int) bool {
	held := false
	for core := 0; core < api.MaxCores; core++ {
		if m.states[core][line] != api.None {
			m.handOn(core, line)
			m.states[core][line] = api.Shared
			held = true
		}
	}
	return held
}

// keep puts the line into the core's first cache.
func (m *Machine) keep(core int, line int, state int) {
	touched := m.firsts[core].Touch(line)
	if touched.Out != set.Empty {
		m.leave(core, touched.Out)
	}
	m.states[core][line] = state
}

// countPlace counts where a line was found.
func (m *Machine) countPlace(place int) {
	switch place {
	case api.First:
		m.counts.Firsts++
	case api.Last:
		m.counts.Lasts++
	default:
		m.counts.Fetches++
	}
}
