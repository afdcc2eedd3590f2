// Package cache: one cache: its sets, which policy each does as, and the duel between them.
package cache

import (
	"coherent/api"
	"coherent/set"
)

// Cache is the sets of one cache; New makes it.
type Cache struct {
	policy int
	count  int // how many sets there are
	sets   [api.MaxSets]set.Set
	ranks  set.Ranks
	psel   int
}

// New makes a cache, all ways empty.
func New(sets int, ways int, policy int) Cache {
	c := Cache{policy: policy, count: possible(sets), psel: api.PselMid}
	for number := 0; number < c.count; number++ {
		c.sets[number] = set.New(ways)
	}
	return c
}

// possible keeps the number of sets within the array, so that no index can leave it.
func possible(sets int) int {
	if sets < 1 {
		return 1
	}
	if sets > api.MaxSets {
		return api.MaxSets
	}
	return sets
}

// Touch finds the line in its set, or puts it in there.
func (c *Cache) Touch(line int) api.Touch {
	number := c.setOf(line)
	policy := c.policyOf(number)
	touched := c.sets[number].Touch(policy, &c.ranks, line)
	if !touched.Hit {
		c.missed(number)
	}
	return touched
}

// Remove empties the way that the line is in, if there is one.
func (c *Cache) Remove(line int) {
	number := c.setOf(line)
	c.sets[number].Remove(line)
}

// setOf tells the number of the set that the line belongs to.
func (c *Cache) setOf(line int) int {
	if line < 0 || c.count < 1 {
		return 0
	}
	return line % c.count
}
