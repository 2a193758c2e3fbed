package state

import "pharos/api"

// The bounds of right states: far enough below 2^64 that what the layers above reckon fits.
const (
	firstLateSlot   = uint64(1) << 40
	tooManyDeposits = uint64(1) << 40
	firstLateEpoch  = uint64(1) << 41 // of a validator; Far is none of them
	mostScore       = uint64(1) << 40
	mostTogether    = uint64(1) << 57 // Gwei
)

// Right: may it be a state?
func Right(x api.State) bool {
	return listsFit(x) &&
		lengthsAreRight(x) &&
		timesAreRight(x) &&
		x.Deposits < tooManyDeposits &&
		validatorsAreRight(x.Validators) &&
		scoresAreRight(x.Scores) &&
		togetherAtMost(x.Balances, mostTogether) &&
		togetherAtMost(x.Slashings[:], mostTogether)
}

// lengthsAreRight, if each validator has one of each.
func lengthsAreRight(x api.State) bool {
	n := len(x.Validators)
	return len(x.Balances) == n && len(x.Previous) == n && len(x.Current) == n && len(x.Scores) == n
}

// timesAreRight, if nothing that the state remembers is of a later time than its own.
func timesAreRight(x api.State) bool {
	epoch := x.Slot / api.SlotsPerEpoch
	return x.Slot < firstLateSlot && x.Header.Slot <= x.Slot &&
		x.OldJust.Epoch <= epoch && x.Just.Epoch <= epoch && x.Final.Epoch <= epoch
}

func validatorsAreRight(validators []api.Validator) bool {
	for _, v := range validators {
		if v.Effective%api.Increment != 0 || v.Effective > api.MaxEffective {
			return false
		}
		if !isEpoch(v.Eligible) || !isEpoch(v.Activation) || !isEpoch(v.Exit) || !isEpoch(v.Withdrawable) {
			return false
		}
	}
	return true
}

// isEpoch tells whether a validator may have this epoch.
func isEpoch(n uint64) bool { return n == api.Far || n < firstLateEpoch }

func scoresAreRight(scores []uint64) bool {
	for _, score := range scores {
		if score > mostScore {
			return false
		}
	}
	return true
}

// togetherAtMost tells whether the sum isn't above most. What is left is reckoned instead of the sum, which might wrap.
func togetherAtMost(numbers []uint64, most uint64) bool {
	left := most
	for _, n := range numbers {
		if n > left {
			return false
		}
		left -= n
	}
	return true
}
