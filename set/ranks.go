package set

import "coherent/api"

const (
	foundRank  = 0 // of a way whose line was found
	usualRank  = 2 // of a line that is put in, with Static
	victimRank = 3 // of a way that may be the victim; Rare puts most lines in with it
)

// Ranks tells with which rank lines are put in. All sets of one cache share one, as Rare counts over the whole cache.
type Ranks struct {
	rares int // lines that were put in as Rare says, since the last Often-th one
}

// Next tells the rank of the line that is put in now, and counts it if the policy is Rare.
func (r *Ranks) Next(policy int) int {
	if policy != api.Rare {
		return usualRank
	}
	r.rares++
	if r.rares < api.Often {
		return victimRank
	}
	r.rares = 0
	return usualRank
}
