// Package coherent: a machine of caches that several cores share: see DOC.md.
package coherent

import (
	"coherent/api"
	"coherent/cache"
)

// Machine is caches and memory.
type Machine struct {
	config api.Config
	firsts [api.MaxCores]cache.Cache
	last   cache.Cache
	states [api.MaxCores][api.Lines]int // what each core has of each line; of a core that there is not, None
	lasts  [api.Lines]int               // what the last cache has of each line
	words  [api.Addrs]int               // as they were stored last, by whichever core
	memory [api.Addrs]int               // as they stand in the memory
	counts api.Counts                   // without Psel, which the last cache keeps
}

// Check tells whether there is such a machine (P4).
func Check(c api.Config) api.Errno {
	if c.Cores < 1 || c.Cores > api.MaxCores {
		return api.ErrCores
	}
	if !isSize(c.Sets) || !isSize(c.LastSets) {
		return api.ErrSets
	}
	if !isSize(c.Ways) || !isSize(c.LastWays) {
		return api.ErrWays
	}
	if c.Policy != api.Oldest && c.Policy != api.Tree {
		return api.ErrPolicy
	}
	if c.LastPolicy < api.Oldest || c.LastPolicy > api.Dueling {
		return api.ErrPolicy
	}
	return api.OK
}

// isSize tells whether a cache can have so many sets, or a set so many ways.
func isSize(n int) bool {
	return n == 1 || n == 2 || n == 4 || n == 8
}

// New makes a machine (P4).
func New(c api.Config) (*Machine, api.Errno) {
	wrong := Check(c)
	if wrong != api.OK {
		return nil, wrong
	}
	m := &Machine{config: c}
	m.empty()
	return m, api.OK
}
