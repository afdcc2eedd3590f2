package coherent

import "coherent/api"

// Agrees tells whether the ways of all caches hold just the lines that the machine says they hold.
func Agrees(m *Machine) bool {
	for line := range m.lasts {
		last := m.last
		if last.Touch(line).Hit != (m.lasts[line] != api.Away) {
			return false
		}
		for core := range m.config.Cores {
			first := m.firsts[core]
			if first.Touch(line).Hit != (m.states[core][line] != api.None) {
				return false
			}
		}
	}
	return true
}
