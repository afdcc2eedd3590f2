package coherent

import "coherent/api"

// checkCore tells the first error of a call that names a core.
func (m *Machine) checkCore(core int) api.Errno {
	if m == nil {
		return api.ErrNil
	}
	if core < 0 || core >= m.config.Cores {
		return api.ErrCore
	}
	return api.OK
}

// checkLine tells the first error of a call that names a line.
func (m *Machine) checkLine(line int) api.Errno {
	if m == nil {
		return api.ErrNil
	}
	if line < 0 || line >= api.Lines {
		return api.ErrLine
	}
	return api.OK
}

// checkAddr tells the first error of a call that names an address.
func (m *Machine) checkAddr(addr int) api.Errno {
	if m == nil {
		return api.ErrNil
	}
	if addr < 0 || addr >= api.Addrs {
		return api.ErrAddr
	}
	return api.OK
}

// checkCoreLine tells the first error of a call that names a core, then a line.
func (m *Machine) checkCoreLine(core int, line int) api.Errno {
	wrong := m.checkCore(core)
	if wrong != api.OK {
		return wrong
	}
	return m.checkLine(line)
}

// checkCoreAddr tells the first error of a call that names a core, then an address.
func (m *Machine) checkCoreAddr(core int, addr int) api.Errno {
	wrong := m.checkCore(core)
	if wrong != api.OK {
		return wrong
	}
	return m.checkAddr(addr)
}
