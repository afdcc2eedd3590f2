package cache

import "coherent/api"

// Of so many sets one always does as Static, and one as Rare.
const duelists = 4

// Psel tells how the duel stands. Without Dueling it stands at PselMid for ever.
func (c *Cache) Psel() int {
	return c.psel
}

// policyOf tells the policy that the set does as now.
func (c *Cache) policyOf(number int) int {
	if c.policy != api.Dueling {
		return c.policy
	}
	switch number % duelists {
	case 0:
		return api.Static
	case 1:
		return api.Rare
	}
	if c.psel > api.PselMid {
		return api.Rare
	}
	return api.Static
}

// missed counts a miss in the set against its policy, if it is one of the sets that are in the duel.
func (c *Cache) missed(number int) {
	if c.policy != api.Dueling {
		return
	}
	switch number % duelists {
	case 0:
		if c.psel < api.PselMax {
			c.psel++
		}
	case 1:
		if c.psel > 0 {
			c.psel--
		}
	}
}
