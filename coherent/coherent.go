// Package coherent: a machine of caches that several cores share: see DOC.md.
package coherent

import "coherent/api"

// Machine is caches and memory.
type Machine struct{}

// Check tells whether there is such a machine (P4).
func Check(c api.Config) api.Errno { return api.OK }

// New makes a machine (P4).
func New(c api.Config) (*Machine, api.Errno) { return nil, api.OK }

// Load reads a word (P6).
func (m *Machine) Load(core int, addr int) (int, int, api.Errno) { return 0, 0, api.OK }

// Store writes a word (P7).
func (m *Machine) Store(core int, addr int, value int) (int, api.Errno) { return 0, api.OK }

// Evict takes a line out of a core's first cache (P8).
func (m *Machine) Evict(core int, line int) api.Errno { return api.OK }

// State tells what a core has of a line (P9).
func (m *Machine) State(core int, line int) (int, api.Errno) { return 0, api.OK }

// Last tells what the last cache has of a line (P9).
func (m *Machine) Last(line int) (int, api.Errno) { return 0, api.OK }

// Memory tells what stands in the memory (P9).
func (m *Machine) Memory(addr int) (int, api.Errno) { return 0, api.OK }

// Counts tells what has happened (P9).
func (m *Machine) Counts() (api.Counts, api.Errno) { return api.Counts{}, api.OK }

// Drain empties all caches (P10).
func (m *Machine) Drain() api.Errno { return api.OK }
