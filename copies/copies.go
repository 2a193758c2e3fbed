// Package copies makes copies that share no memory with what they are made of. It is no layer: all layers that change a state lean on it.
package copies

import (
	"slices"

	"pharos/api"
)

// State with lists of its own, so that a change of the one isn't seen in the other.
func State(x api.State) api.State {
	x.History = slices.Clone(x.History)
	x.Votes = slices.Clone(x.Votes)
	x.Validators = slices.Clone(x.Validators)
	x.Balances = slices.Clone(x.Balances)
	x.Previous = slices.Clone(x.Previous)
	x.Current = slices.Clone(x.Current)
	x.Scores = slices.Clone(x.Scores)
	return x
}
