package choir_test

import (
	"fmt"
	"slices"
	"testing"

	"pharos/api"
	"pharos/choir"
	"pharos/state"
)

// someSlots of all remainders, in the first epochs, around the fork, and the greatest one.
func someSlots() []uint64 {
	return []uint64{0, 1, 2, 3, 4, 5, 7, 8, 12, 36, 39, 40, 41, 60, 63, 64, 100, 101, 102, 103, 1 << 32, 1<<32 + 5, lastSlot - 4, lastSlot - 3, lastSlot - 1, lastSlot}
}

// notRight: states that aren't right, each by a small change of this one, which has a validator at least.
func notRight(t *testing.T, x api.State) map[string]api.State {
	t.Helper()
	changes := map[string]func(y *api.State){
		"a balance more":             func(y *api.State) { y.Balances = append(slices.Clone(y.Balances), 1) },
		"a flag less":                func(y *api.State) { y.Previous = y.Previous[1:] },
		"no flags":                   func(y *api.State) { y.Current = nil },
		"a score less":               func(y *api.State) { y.Scores = y.Scores[1:] },
		"validators alone":           func(y *api.State) { y.Balances, y.Previous, y.Current, y.Scores = nil, nil, nil, nil },
		"a validator less":           func(y *api.State) { y.Validators = y.Validators[1:] },
		"nine votes":                 func(y *api.State) { y.Votes = eth1sOf(9) },
		"too long a history":         func(y *api.State) { y.History = make([]api.Root, 1025) },
		"too late a slot":            func(y *api.State) { y.Slot = 1 << 40 },
		"the greatest slot":          func(y *api.State) { y.Slot = top },
		"a header of later":          func(y *api.State) { y.Header.Slot = y.Slot + 1 },
		"too many deposits":          func(y *api.State) { y.Deposits += 1 << 40 },
		"the most deposits":          func(y *api.State) { y.Deposits = top },
		"a checkpoint of later":      func(y *api.State) { y.OldJust.Epoch = y.Slot/4 + 1 },
		"justified later":            func(y *api.State) { y.Just.Epoch = y.Slot/4 + 1 },
		"final later":                func(y *api.State) { y.Final.Epoch = top },
		"a crooked balance":          ofFirst(func(v *api.Validator) { v.Effective-- }),
		"too great a balance":        ofFirst(func(v *api.Validator) { v.Effective = 33 * gwei }),
		"too late an eligibility":    ofFirst(func(v *api.Validator) { v.Eligible = lastEpoch + 1 }),
		"too late an activation":     ofFirst(func(v *api.Validator) { v.Activation = lastEpoch + 1 }),
		"too late an exit":           ofFirst(func(v *api.Validator) { v.Exit = top - 1 }),
		"too late a withdrawal":      ofFirst(func(v *api.Validator) { v.Withdrawable = lastEpoch + 1 }),
		"too great a score":          func(y *api.State) { y.Scores = slices.Repeat([]uint64{1<<40 + 1}, len(y.Scores)) },
		"too much together":          func(y *api.State) { y.Balances = slices.Repeat([]uint64{most + 1}, len(y.Balances)) },
		"balances that wrap":         func(y *api.State) { y.Balances = slices.Repeat([]uint64{1 << 63}, len(y.Balances)) },
		"slashings above all":        func(y *api.State) { y.Slashings[7] = most + 1 },
		"slashings that wrap":        func(y *api.State) { y.Slashings[0], y.Slashings[7] = 1<<63, 1<<63 },
		"too many validators":        tooMany,
		"nobody, but one balance":    func(y *api.State) { nobody(y); y.Balances = []uint64{1} },
		"a late slot and no actives": func(y *api.State) { nobody(y); y.Slot = 1 << 40 },
	}
	all := map[string]api.State{}
	for what, change := range changes {
		y := x
		change(&y)
		if state.Right(y) {
			t.Fatalf("the test's own state is right: %s", what)
		}
		all[what] = y
	}
	return all
}

// ofFirst changes the first validator, in a list of its own.
func ofFirst(change func(v *api.Validator)) func(y *api.State) {
	return func(y *api.State) {
		y.Validators = slices.Clone(y.Validators)
		change(&y.Validators[0])
	}
}

func nobody(y *api.State) {
	y.Validators, y.Balances, y.Previous, y.Current, y.Scores = nil, nil, nil, nil, nil
}

func tooMany(y *api.State) {
	n := 1<<16 + 1
	y.Validators = slices.Repeat(y.Validators[:1], n)
	y.Balances, y.Previous, y.Current, y.Scores = make([]uint64, n), make([]uint8, n), make([]uint8, n), make([]uint64, n)
}

// P21.1

func TestSharesExamples(t *testing.T) {
	for _, c := range []struct {
		increments  []uint64
		share, more uint64
	}{
		{nil, 1976, 282}, {[]uint64{0}, 1976, 282}, {[]uint64{1}, 1976, 282}, {[]uint64{2}, 2795, 399}, {[]uint64{1, 1}, 2795, 399}, {[]uint64{3}, 3423, 489},
		{[]uint64{32}, 11180, 1597}, {[]uint64{32, 32, 0}, 15811, 2258},
	} {
		var validators []api.Validator
		for _, n := range c.increments {
			validators = append(validators, member(n, 0, far))
		}
		what := fmt.Sprint("Increments ", c.increments)
		if share, more := wantShares(t, what, withValidators(103, validators...)); share != c.share || more != c.more {
			t.Errorf("%s: %d, %d; want %d, %d", what, share, more, c.share, c.more)
		}
	}
	if share, more := choir.Shares(api.State{}); share != 1976 || more != 282 {
		t.Errorf("the zero state: %d, %d", share, more)
	}
}

// TestSharesOfAllSums: from nothing on, so that each of the divisions is rounded, and isn't.
func TestSharesOfAllSums(t *testing.T) {
	last := uint64(0)
	for sum := range uint64(1500) {
		n := sum / full
		validators := append(members(int(n), full), member(sum%full, 0, far))
		share, more := wantShares(t, fmt.Sprint(sum, " Increments"), withValidators(103, validators...))
		if share < last || more > share/7 {
			t.Errorf("%d Increments: %d, %d, where one less has %d", sum, share, more, last)
		}
		last = share
	}
}

// TestSharesOfTheMost that a right state may have.
func TestSharesOfTheMost(t *testing.T) {
	x := withValidators(103, members(1<<16, full)...)
	x.Balances = make([]uint64, 1<<16)
	if share, more := wantShares(t, "the most", x); share != 2861056 || more != 408722 {
		t.Errorf("the most: %d, %d", share, more)
	}
	for i := range x.Validators {
		x.Validators[i].Effective = uint64(i%33) * gwei
	}
	wantShares(t, "as many with fewer", x)
	for i := range x.Validators {
		x.Validators[i].Activation = uint64(i % 51)
	}
	wantShares(t, "as many, of whom half are active", x)
	x.Validators[0].Effective = 0
	for i := range x.Validators {
		x.Validators[i].Activation = far
	}
	if share, more := wantShares(t, "as many, of whom none is active", x); share != 1976 || more != 282 {
		t.Errorf("none is active: %d, %d", share, more)
	}
}

// TestSharesOfActives alone, at the edges of what is active, by the epoch of the state.
func TestSharesOfActives(t *testing.T) {
	for _, slot := range someSlots() {
		epoch := slot / 4
		epochs := []uint64{max(epoch, 1) - 1, epoch, min(epoch+1, lastEpoch), far}
		for _, activation := range epochs {
			for _, exit := range epochs {
				for _, slashed := range []bool{false, true} {
					v := member(9, activation, exit)
					v.Slashed = slashed
					share, _ := wantShares(t, fmt.Sprintf("slot %d, %v", slot, v), withValidators(slot, member(full, 0, far), v))
					want := uint64(11180)
					if activation <= epoch && epoch < exit {
						want = 12655 // of 41
					}
					if share != want {
						t.Errorf("slot %d, %v: %d; want %d", slot, v, share, want)
					}
				}
			}
		}
	}
}

// TestSharesOfBalances: those play no part, nor whatever else stands in a state.
func TestSharesOfBalances(t *testing.T) {
	x := withValidators(103, members(3, full)...)
	want, wantMore := wantShares(t, "at first", x)
	x.Balances = []uint64{most - 1, 1, 0}
	x.Slashings, x.Scores, x.Sync, x.NextSync = [8]uint64{}, make([]uint64, 3), api.Committee{}, api.Committee{}
	x.Header, x.Mixes, x.Fork = api.Header{}, [8]api.Root{}, api.Fork{}
	if share, more := wantShares(t, "all else is changed", x); share != want || more != wantMore {
		t.Errorf("all else is changed: %d, %d; want %d, %d", share, more, want, wantMore)
	}
}

func TestSharesOfStatesThatArentRight(t *testing.T) {
	for what, x := range notRight(t, withValidators(103, members(16, full)...)) {
		if share, more := choir.Shares(x); share != 0 || more != 0 {
			t.Errorf("%s: %d, %d", what, share, more)
		}
	}
}
