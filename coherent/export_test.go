package coherent

import "coherent/api"

// Soil lays a new word into a copy that the core has Alone or Dirty, and makes it Dirty, as the words of P5 to P10 about such lines need one before there are stores.
func Soil(m *Machine, core int, addr int, value int) {
	m.words[addr] = value
	m.states[core][addr/api.Words] = api.Dirty
}

// Agrees tells whether the ways of all caches hold just the lines that the machine says they hold.
func Agrees(m *Machine) bool {
	for line := range m.lasts {
		last := m.last
		if last.Touch(line).Hit != (m.lasts[line] != api.Away) {
			return false
		}
		for core := range m.config.Cores {
			first := m.firsts[core]
			if first.Touch(line).Hit != (m.states[core][line] != api.None) {
				return false
			}
		}
	}
	return true
}
