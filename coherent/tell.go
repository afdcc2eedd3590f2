package coherent

import "coherent/api"

// State tells what a core has of a line (P9).
func (m *Machine) State(core int, line int) (int, api.Errno) {
	wrong := m.checkCoreLine(core, line)
	if wrong != api.OK {
		return 0, wrong
	}
	return m.states[core][line], api.OK
}

// Last tells what the last cache has of a line (P9).
func (m *Machine) Last(line int) (int, api.Errno) {
	wrong := m.checkLine(line)
	if wrong != api.OK {
		return 0, wrong
	}
	return m.lasts[line], api.OK
}

// Memory tells what stands in the memory (P9).
func (m *Machine) Memory(addr int) (int, api.Errno) {
	wrong := m.checkAddr(addr)
	if wrong != api.OK {
		return 0, wrong
	}
	return m.memory[addr], api.OK
}

// Counts tells what has happened (P9).
func (m *Machine) Counts() (api.Counts, api.Errno) {
	if m == nil {
		return api.Counts{}, api.ErrNil
	}
	counts := m.counts
	counts.Psel = m.last.Psel()
	return counts, api.OK
}
