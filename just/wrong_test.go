package just_test

import (
	"slices"
	"testing"

	"pharos/api"
	"pharos/state"
)

// notRight: states that aren't right, each by a small change of this one, which has a validator at least.
func notRight(t *testing.T, x api.State) map[string]api.State {
	t.Helper()
	changes := map[string]func(y *api.State){
		"a balance more":             func(y *api.State) { y.Balances = append(slices.Clone(y.Balances), 1) },
		"a flag less":                func(y *api.State) { y.Previous = y.Previous[1:] },
		"no flags":                   func(y *api.State) { y.Current = nil },
		"a score less":               func(y *api.State) { y.Scores = y.Scores[1:] },
		"validators alone":           func(y *api.State) { y.Balances, y.Previous, y.Current, y.Scores = nil, nil, nil, nil },
		"a validator less":           func(y *api.State) { y.Validators = y.Validators[1:] },
		"nine votes":                 func(y *api.State) { y.Votes = eth1sOf(9) },
		"too long a history":         func(y *api.State) { y.History = make([]api.Root, 1025) },
		"too late a slot":            func(y *api.State) { y.Slot = 1<<40 + 3 },
		"the greatest slot":          func(y *api.State) { y.Slot = top },
		"a header of later":          func(y *api.State) { y.Header.Slot = y.Slot + 1 },
		"too many deposits":          func(y *api.State) { y.Deposits += 1 << 40 },
		"the most deposits":          func(y *api.State) { y.Deposits = top },
		"a checkpoint of later":      func(y *api.State) { y.OldJust.Epoch = y.Slot/4 + 1 },
		"justified later":            func(y *api.State) { y.Just.Epoch = y.Slot/4 + 1 },
		"final later":                func(y *api.State) { y.Final.Epoch = top },
		"final one later":            func(y *api.State) { y.Final.Epoch = y.Slot/4 + 1 },
		"a crooked balance":          ofFirst(func(v *api.Validator) { v.Effective-- }),
		"too great a balance":        ofFirst(func(v *api.Validator) { v.Effective = 33 * gwei }),
		"too late an eligibility":    ofFirst(func(v *api.Validator) { v.Eligible = lastEpoch + 1 }),
		"too late an activation":     ofFirst(func(v *api.Validator) { v.Activation = lastEpoch + 1 }),
		"too late an exit":           ofFirst(func(v *api.Validator) { v.Exit = top - 1 }),
		"too late a withdrawal":      ofFirst(func(v *api.Validator) { v.Withdrawable = lastEpoch + 1 }),
		"too great a score":          func(y *api.State) { y.Scores = slices.Repeat([]uint64{1<<40 + 1}, len(y.Scores)) },
		"too much together":          func(y *api.State) { y.Balances = slices.Repeat([]uint64{most + 1}, len(y.Balances)) },
		"balances that wrap":         func(y *api.State) { y.Balances = slices.Repeat([]uint64{1 << 63}, len(y.Balances)) },
		"slashings above all":        func(y *api.State) { y.Slashings[7] = most + 1 },
		"slashings that wrap":        func(y *api.State) { y.Slashings[0], y.Slashings[7] = 1<<63, 1<<63 },
		"too many validators":        tooMany,
		"nobody, but one balance":    func(y *api.State) { nobody(y); y.Balances = []uint64{1} },
		"a late slot and no actives": func(y *api.State) { nobody(y); y.Slot = 1<<40 + 3 },
	}
	all := map[string]api.State{}
	for what, change := range changes {
		y := x
		change(&y)
		if state.Right(y) {
			t.Fatalf("the test's own state is right: %s", what)
		}
		all[what] = y
	}
	return all
}

// ofFirst changes the first validator, in a list of its own.
func ofFirst(change func(v *api.Validator)) func(y *api.State) {
	return func(y *api.State) {
		y.Validators = slices.Clone(y.Validators)
		change(&y.Validators[0])
	}
}

func nobody(y *api.State) {
	y.Validators, y.Balances, y.Previous, y.Current, y.Scores = nil, nil, nil, nil, nil
}

func tooMany(y *api.State) {
	n := 1<<16 + 1
	y.Validators = slices.Repeat(y.Validators[:1], n)
	y.Balances, y.Previous, y.Current, y.Scores = make([]uint64, n), make([]uint8, n), make([]uint8, n), make([]uint64, n)
}
