package just_test

import (
	"fmt"
	"math"
	"slices"
	"testing"

	"pharos/api"
)

// P22.1

// someSlots of all remainders, in the first epochs and later ones, and the greatest one.
func someSlots() []uint64 {
	return []uint64{0, 1, 2, 3, 4, 5, 6, 7, 8, 9, 10, 11, 12, 15, 16, 99, 100, 101, 102, 103, 1 << 32, 1<<32 + 3, lastSlot - 4, lastSlot - 3, lastSlot - 1, lastSlot}
}

// previousOf a slot: the epoch ahead of its own, by hand.
func previousOf(slot uint64) uint64 {
	if slot < 8 {
		return 0
	}
	return (slot - 4) / 4
}

// TestUnslashedFlags: each flag in Current and in Previous, by itself, and sets of them.
func TestUnslashedFlags(t *testing.T) {
	for _, slot := range someSlots() {
		what, now, previous := fmt.Sprint("slot ", slot), slot/4, previousOf(slot)
		x := withFlags(slot, "STH.07FN3", "....SSTHF", members(9, full)...)
		wantUnslashed(t, what, x, 0, now, 4, 5, 8)
		wantUnslashed(t, what, x, 1, now, 6, 8)
		wantUnslashed(t, what, x, 2, now, 7, 8)
		if now == previous { // epoch 0
			continue
		}
		wantUnslashed(t, what, x, 0, previous, 0, 5, 6, 8)
		wantUnslashed(t, what, x, 1, previous, 1, 5, 6, 8)
		wantUnslashed(t, what, x, 2, previous, 2, 5, 6)
	}
}

// TestUnslashedEpochZero is the previous one, too, and Current counts.
func TestUnslashedEpochZero(t *testing.T) {
	for slot := range uint64(4) {
		what := fmt.Sprint("slot ", slot)
		x := withFlags(slot, "STHF...F", "...FSTH.", members(8, full)...)
		wantUnslashed(t, what, x, 0, 0, 3, 4)
		wantUnslashed(t, what, x, 1, 0, 3, 5)
		wantUnslashed(t, what, x, 2, 0, 3, 6)
	}
	x := withFlags(4, "STHF...F", "...FSTH.", members(8, full)...)
	wantUnslashed(t, "in epoch 1 it is the previous one alone", x, 0, 0, 0, 3, 7)
	wantUnslashed(t, "in epoch 1 it is the previous one alone", x, 1, 0, 1, 3, 7)
	wantUnslashed(t, "in epoch 1 it is the previous one alone", x, 2, 0, 2, 3, 7)
	wantUnslashed(t, "in epoch 1", x, 0, 1, 3, 4)
}

// TestUnslashedAllSetsOfFlags: each byte that may stand there.
func TestUnslashedAllSetsOfFlags(t *testing.T) {
	x := withValidators(103, members(256, full)...)
	for i := range 256 {
		x.Current[i], x.Previous[i] = uint8(i), uint8(255-i)
	}
	for flag := range 3 {
		var with, without []uint64
		for i := range uint64(256) {
			if i>>flag%2 == 1 {
				with = append(with, i)
			} else {
				without = append(without, i)
			}
		}
		wantUnslashed(t, "all sets", x, flag, 25, with...)
		wantUnslashed(t, "all sets", x, flag, 24, without...)
	}
}

// TestUnslashedNoSuchFlag: below 0, above 2, and far away; of numbers whose lowest bits are those of a flag, too.
func TestUnslashedNoSuchFlag(t *testing.T) {
	for _, flag := range []int{-1, 3, -2, -3, 4, 5, 6, 7, 8, 9, 63, 64, 65, 66, 127, 128, 255, 256, 257, 258, 1 << 16, 1 << 32, 1<<32 + 1, 1<<62 + 2, math.MaxInt, math.MaxInt - 1, math.MinInt, math.MinInt + 1, math.MinInt + 2} {
		for _, slot := range []uint64{0, 3, 4, 7, 8, 103, lastSlot} {
			x := withFlags(slot, "FFF", "FFF", members(3, full)...)
			what := fmt.Sprint("slot ", slot)
			wantNoUnslashed(t, what, x, flag, slot/4)
			wantNoUnslashed(t, what, x, flag, previousOf(slot))
			wantNoUnslashed(t, what+", another epoch", x, flag, slot/4+1)
			wantNoUnslashed(t, what+", nobody", withValidators(slot), flag, slot/4)
		}
	}
}

// TestUnslashedEpochs: the state's and the previous one may be, no other one.
func TestUnslashedEpochs(t *testing.T) {
	for _, slot := range someSlots() {
		x := withFlags(slot, "FF", "FF", members(2, full)...)
		now := slot / 4
		epochs := []uint64{0, 1, 2, 3, 4, now + 1, now + 2, slot, 1 << 32, lastEpoch, now + 1<<62, now + 1<<63, now + 1<<32, top - 1, top}
		for back := range uint64(6) { // wrapped round, too
			epochs = append(epochs, now-back)
		}
		for _, epoch := range epochs {
			for flag := range 3 {
				what := fmt.Sprint("slot ", slot)
				if epoch == now || now > 0 && epoch == now-1 {
					wantUnslashed(t, what, x, flag, epoch, 0, 1)
				} else {
					wantNoUnslashed(t, what, x, flag, epoch)
				}
			}
		}
	}
	for _, c := range []struct{ slot, epoch uint64 }{
		{0, 1}, {0, top}, {3, 1}, {3, top}, {4, 2}, {4, top}, {7, 2}, {7, top}, {8, 0}, {8, 3}, {11, 0}, {11, 3}, {12, 1}, {12, 0}, {103, 23}, {103, 26}, {100, 23}, {100, 26}, {103, 103}, {103, 99},
		{lastSlot, 1<<38 - 3}, {lastSlot, 1 << 38},
	} {
		wantNoUnslashed(t, fmt.Sprint("slot ", c.slot), withFlags(c.slot, "FF", "FF", members(2, full)...), 1, c.epoch)
	}
}

// TestUnslashedActives alone: Activation and Exit at each of the two epochs, one below and one above.
func TestUnslashedActives(t *testing.T) {
	for _, slot := range someSlots() {
		now, previous := slot/4, previousOf(slot)
		epochs := []uint64{0, max(previous, 1) - 1, previous, now, min(now+1, lastEpoch), min(now+2, lastEpoch), lastEpoch, far}
		for _, activation := range epochs {
			for _, exit := range epochs {
				x := withFlags(slot, "FFF", "FFF", member(9, 0, far), member(9, activation, exit), member(9, 0, far))
				what := fmt.Sprintf("slot %d, active from %d till %d", slot, activation, exit)
				for flag := range 3 {
					for _, epoch := range []uint64{now, previous} {
						want := []uint64{0, 2}
						if activation <= epoch && epoch < exit {
							want = []uint64{0, 1, 2}
						}
						wantUnslashed(t, what, x, flag, epoch, want...)
					}
				}
			}
		}
	}
}

// TestUnslashedOfOneEpoch: who is active in one of both alone.
func TestUnslashedOfOneEpoch(t *testing.T) {
	left, came, stays := member(full, 0, 25), member(full, 25, far), member(full, 24, 26)
	x := withFlags(103, "FFFFFF", "FFFFFF", left, came, stays, member(full, 0, 24), member(full, 26, far), member(full, 25, 25))
	for flag := range 3 {
		wantUnslashed(t, "one left, one came", x, flag, 24, 0, 2)
		wantUnslashed(t, "one left, one came", x, flag, 25, 1, 2)
	}
}

// TestUnslashedAlone: whoever is Slashed isn't told, whatever else is said of it.
func TestUnslashedAlone(t *testing.T) {
	for set := range 32 {
		x := withFlags(103, "FTSHF", "FTSHF", members(5, full)...)
		var has [3][]uint64
		for i := range uint64(5) {
			slashed := set>>i&1 != 0
			x.Validators[i].Slashed = slashed
			for flag, letters := range []string{"FS", "FT", "FH"} {
				if !slashed && (x.Current[i] == 255 || x.Current[i] == flagsOf(letters[1])) {
					has[flag] = append(has[flag], i)
				}
			}
		}
		for flag := range 3 {
			wantUnslashed(t, fmt.Sprintf("slashed are %05b", set), x, flag, 25, has[flag]...)
			wantUnslashed(t, fmt.Sprintf("slashed are %05b", set), x, flag, 24, has[flag]...)
		}
	}
}

// TestUnslashedOfOtherThings: those play no part.
func TestUnslashedOfOtherThings(t *testing.T) {
	x := withFlags(102, "TTT", "TTT", member(0, 24, 26), member(1, 0, far), member(full, 20, far))
	for _, y := range []api.Validator{{Withdrawable: 0}, {Withdrawable: 24, Eligible: lastEpoch}, {Withdrawable: 25, Eligible: far}, {Withdrawable: far}} {
		for i := range x.Validators {
			x.Validators[i].Withdrawable, x.Validators[i].Eligible = y.Withdrawable, y.Eligible
			x.Balances[i], x.Scores[i] = 0, 1<<40
		}
		wantUnslashed(t, "what else is said of a validator", x, 1, 25, 0, 1, 2)
		wantUnslashed(t, "what else is said of a validator", x, 1, 24, 0, 1, 2)
		wantUnslashed(t, "what else is said of a validator", x, 0, 24)
	}
	x.Final, x.Just, x.OldJust, x.Bits = api.Checkpoint{Epoch: 25}, api.Checkpoint{Epoch: 25}, api.Checkpoint{Epoch: 25}, [4]bool{}
	x.Slashings, x.Header.Slot = [8]uint64{}, 0
	wantUnslashed(t, "what is justified", x, 1, 24, 0, 1, 2)
}

func TestUnslashedOfNobody(t *testing.T) {
	for _, slot := range someSlots() {
		for _, x := range []api.State{{Slot: slot}, withValidators(slot), withFlags(slot, "..", "..", members(2, full)...), withFlags(slot, "FF", "FF", member(1, far, far), member(1, 0, 0))} {
			for flag := range 3 {
				wantUnslashed(t, fmt.Sprint("slot ", slot), x, flag, slot/4)
				wantUnslashed(t, fmt.Sprint("slot ", slot), x, flag, previousOf(slot))
			}
		}
	}
}

// TestUnslashedOfAFullRegistry: all that a right state may have.
func TestUnslashedOfAFullRegistry(t *testing.T) {
	n := 1 << 16
	x := withValidators(lastSlot, members(n, full)...)
	var threes []uint64
	for i := range n {
		x.Balances[i], x.Current[i], x.Previous[i] = 0, 7, 0
		if i%3 == 2 {
			x.Previous[i] = 2
			threes = append(threes, uint64(i))
		}
	}
	all := make([]uint64, n)
	for i := range all {
		all[i] = uint64(i)
	}
	wantUnslashed(t, "a full registry", x, 1, 1<<38-1, all...)
	wantUnslashed(t, "a full registry", x, 1, 1<<38-2, threes...)
	wantUnslashed(t, "a full registry", x, 0, 1<<38-2)
	for i := range n - 1 {
		x.Validators[i].Slashed = true
	}
	wantUnslashed(t, "a full registry, of whom one isn't slashed", x, 2, 1<<38-1, uint64(n-1))
}

// TestUnslashedOfStatesThatArentRight: at the epochs that would be theirs, and whatever the flag.
func TestUnslashedOfStatesThatArentRight(t *testing.T) {
	right := withFlags(103, "FTSH.", "FTSH.", members(5, full)...)
	for what, x := range notRight(t, right) {
		for _, flag := range []int{-1, 0, 1, 2, 3} {
			for _, epoch := range slices.Compact([]uint64{0, 23, 24, 25, 26, x.Slot/4 - 1, x.Slot / 4}) {
				wantNoUnslashed(t, what, x, flag, epoch)
			}
		}
	}
}
