package coherent

import "coherent/api"

// Evict takes a line out of a core's first cache (P8).
func (m *Machine) Evict(core int, line int) api.Errno {
	wrong := m.checkCoreLine(core, line)
	if wrong != api.OK {
		return wrong
	}
	m.lose(core, line)
	return api.OK
}

// lose takes the line out of the core's first cache, if it is there.
func (m *Machine) lose(core int, line int) {
	m.firsts[core].Remove(line)
	m.leave(core, line)
}

// leave ends what the core has of a line that is in no way of its first cache any more.
func (m *Machine) leave(core int, line int) {
	m.handOn(core, line)
	m.states[core][line] = api.None
}

// handOn gives what the core has stored to the line on to the last cache.
func (m *Machine) handOn(core int, line int) {
	if m.states[core][line] == api.Dirty {
		m.lasts[line] = api.Changed
	}
}
