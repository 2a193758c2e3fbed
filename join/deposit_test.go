package join_test

import (
	"fmt"
	"slices"
	"testing"

	"pharos/api"
	"pharos/join"
	"pharos/state"
)

// someSlots of all remainders, in the first epochs, around the fork, and the greatest one.
func someSlots() []uint64 {
	return []uint64{0, 1, 2, 3, 4, 5, 7, 8, 12, 36, 39, 40, 41, 60, 63, 64, 100, 101, 102, 103, 1 << 32, 1<<32 + 5, lastSlot - 4, lastSlot - 3, lastSlot - 1, lastSlot}
}

// notRight: states that aren't right, each by a small change of this one, which has a validator at least.
func notRight(t *testing.T, x api.State) map[string]api.State {
	t.Helper()
	changes := map[string]func(y *api.State){
		"a balance more":             func(y *api.State) { y.Balances = append(slices.Clone(y.Balances), 1) },
		"a flag less":                func(y *api.State) { y.Previous = y.Previous[1:] },
		"no flags":                   func(y *api.State) { y.Current = nil },
		"a score less":               func(y *api.State) { y.Scores = y.Scores[1:] },
		"validators alone":           func(y *api.State) { y.Balances, y.Previous, y.Current, y.Scores = nil, nil, nil, nil },
		"a validator less":           func(y *api.State) { y.Validators = y.Validators[1:] },
		"nine votes":                 func(y *api.State) { y.Votes = eth1sOf(9) },
		"too long a history":         func(y *api.State) { y.History = make([]api.Root, 1025) },
		"too late a slot":            func(y *api.State) { y.Slot = 1 << 40 },
		"the greatest slot":          func(y *api.State) { y.Slot = top },
		"a header of later":          func(y *api.State) { y.Header.Slot = y.Slot + 1 },
		"too many deposits":          func(y *api.State) { y.Deposits += 1 << 40 },
		"the most deposits":          func(y *api.State) { y.Deposits = top },
		"a checkpoint of later":      func(y *api.State) { y.OldJust.Epoch = y.Slot/4 + 1 },
		"justified later":            func(y *api.State) { y.Just.Epoch = y.Slot/4 + 1 },
		"final later":                func(y *api.State) { y.Final.Epoch = top },
		"a crooked balance":          ofFirst(func(v *api.Validator) { v.Effective-- }),
		"too great a balance":        ofFirst(func(v *api.Validator) { v.Effective = 33 * gwei }),
		"too late an eligibility":    ofFirst(func(v *api.Validator) { v.Eligible = lastEpoch + 1 }),
		"too late an activation":     ofFirst(func(v *api.Validator) { v.Activation = lastEpoch + 1 }),
		"too late an exit":           ofFirst(func(v *api.Validator) { v.Exit = top - 1 }),
		"too late a withdrawal":      ofFirst(func(v *api.Validator) { v.Withdrawable = lastEpoch + 1 }),
		"too great a score":          func(y *api.State) { y.Scores = slices.Repeat([]uint64{1<<40 + 1}, len(y.Scores)) },
		"too much together":          func(y *api.State) { y.Balances = slices.Repeat([]uint64{most + 1}, len(y.Balances)) },
		"balances that wrap":         func(y *api.State) { y.Balances = slices.Repeat([]uint64{1 << 63}, len(y.Balances)) },
		"slashings above all":        func(y *api.State) { y.Slashings[7] = most + 1 },
		"slashings that wrap":        func(y *api.State) { y.Slashings[0], y.Slashings[7] = 1<<63, 1<<63 },
		"too many validators":        tooMany,
		"nobody, but one balance":    func(y *api.State) { nobody(y); y.Balances = []uint64{1} },
		"a late slot and no actives": func(y *api.State) { nobody(y); y.Slot = 1 << 40 },
	}
	all := map[string]api.State{}
	for what, change := range changes {
		y := x
		change(&y)
		if state.Right(y) {
			t.Fatalf("the test's own state is right: %s", what)
		}
		all[what] = y
	}
	return all
}

// ofFirst changes the first validator, in a list of its own.
func ofFirst(change func(v *api.Validator)) func(y *api.State) {
	return func(y *api.State) {
		y.Validators = slices.Clone(y.Validators)
		change(&y.Validators[0])
	}
}

func nobody(y *api.State) {
	y.Validators, y.Balances, y.Previous, y.Current, y.Scores = nil, nil, nil, nil, nil
}

func tooMany(y *api.State) {
	n := 1<<16 + 1
	y.Validators = slices.Repeat(y.Validators[:1], n)
	y.Balances, y.Previous, y.Current, y.Scores = make([]uint64, n), make([]uint8, n), make([]uint8, n), make([]uint64, n)
}

// The chapter's examples.

func TestExamples(t *testing.T) {
	d := depositOf(1, 33*gwei)
	x := expecting(api.State{}, d)
	y := wantDeposit(t, "33 Increments", x, d, nil)
	if len(y.Validators) != 1 || y.Validators[0].Effective != 32*gwei || y.Balances[0] != 33*gwei || y.Deposits != 1 {
		t.Errorf("33 Increments: %v, balances %d, Deposits %d", y.Validators, y.Balances, y.Deposits)
	}
	y = expecting(y, d)
	z := wantDeposit(t, "the same once more", y, d, nil)
	if len(z.Validators) != 1 || z.Validators[0] != y.Validators[0] || z.Balances[0] != 66*gwei || z.Deposits != 2 {
		t.Errorf("the same once more: %v, balances %d, Deposits %d", z.Validators, z.Balances, z.Deposits)
	}
	if _, asked, _ := join.Deposit(y, d, nil); len(asked) != 0 {
		t.Errorf("the same once more: asked %x", asked)
	}
	wantNoExit(t, "one who came in this epoch", withValidators(103, member(full, 25, far)), exitOf(25, 0), nil, api.BadDelay)
}

// P20.1

func TestDepositOfSlotsAndNumbers(t *testing.T) {
	for _, n := range []int{0, 1, 2, 3, 16, 300} {
		for k, slot := range someSlots() {
			x := withValidators(slot, members(n, uint64(17+slot%16))...)
			d := depositOf(k, uint64(k+20)*gwei)
			y := wantDeposit(t, fmt.Sprintf("slot %d, one more than %d", slot, n), expecting(x, d), d, nil)
			want := api.Validator{Key: d.Data.Key, Credentials: d.Data.Credentials, Effective: min(32, uint64(k+20)) * gwei, Eligible: far, Activation: far, Exit: far, Withdrawable: far}
			if len(y.Validators) != n+1 || y.Validators[n] != want || y.Balances[n] != d.Data.Amount || y.Previous[n] != 0 || y.Current[n] != 0 || y.Scores[n] != 0 || y.Deposits != 10 {
				t.Errorf("slot %d, one more than %d: %v", slot, n, y)
			}
			if n == 0 {
				continue
			}
			for _, i := range []int{0, n / 2, n - 1} {
				d = depositFor(i, uint64(k)*gwei+5)
				y = wantDeposit(t, fmt.Sprintf("slot %d, %d of %d", slot, i, n), expecting(x, d), d, nil)
				if len(y.Validators) != n || y.Balances[i] != x.Balances[i]+d.Data.Amount || y.Deposits != 10 {
					t.Errorf("slot %d, %d of %d: %v", slot, i, n, y)
				}
			}
		}
	}
}

// TestDepositPlaces: none, some, those at which bits of the place come anew, those behind the branch's own, and the most of a right state.
func TestDepositPlaces(t *testing.T) {
	for _, place := range []uint64{0, 1, 2, 3, 4, 5, 7, 8, 15, 16, 21, 31, 32, 42, 62, 63, 64, 65, 127, 128, 129, 1 << 20, 1<<32 + 3, lastDeposits - 1} {
		x := withValidators(103, members(3, full)...)
		x.Deposits = place
		for what, d := range map[string]api.Deposit{"for a new one": depositOf(1, 32*gwei), "for one who is there": depositFor(1, gwei)} {
			y := wantDeposit(t, fmt.Sprintf("%s, at %d", what, place), expecting(x, d), d, nil)
			if y.Deposits != place+1 {
				t.Errorf("%s: Deposits from %d to %d", what, place, y.Deposits)
			}
		}
	}
}

// TestDepositOfTheLastPlace: the state behind it wouldn't be right, whatever else comes of it.
func TestDepositOfTheLastPlace(t *testing.T) {
	x := withValidators(103, members(3, full)...)
	x.Deposits = lastDeposits
	mustRight(t, x)
	d := depositFor(1, gwei)
	wantNoDeposit(t, "for one who is there", expecting(x, d), d, nil, api.ErrOver)
	d = depositOf(1, gwei)
	q := askedOfDeposit(d)
	wantNoDeposit(t, "for a new one", expecting(x, d), d, nil, api.ErrOver, q)
	wantNoDeposit(t, "for a new one, bad", expecting(x, d), d, []api.Root{q}, api.ErrOver, q)
	d = depositOf(1, most+1)
	wantNoDeposit(t, "too much", expecting(x, d), d, nil, api.ErrOver, askedOfDeposit(d))
	wantNoDeposit(t, "elsewhere", x, d, nil, api.BadProof)
}

// wantNoBranch: neither for one who is there nor for a new one, and nothing is asked, be the answer bad or not.
func wantNoBranch(t *testing.T, what string, x api.State, d api.Deposit) {
	t.Helper()
	mustRight(t, x)
	wantNoDeposit(t, what, x, d, nil, api.BadProof)
	wantNoDeposit(t, what+", bad", x, d, []api.Root{askedOfDeposit(d)}, api.BadProof)
}

// eachBit of some bytes is turned, and behind it turned back.
func eachBit(b []byte, look func(what string)) {
	for i := range b {
		for bit := range 8 {
			b[i] ^= 1 << bit
			look(fmt.Sprintf("byte %d, bit %d", i, bit))
			b[i] ^= 1 << bit
		}
	}
}

func TestDepositOfAnotherBranch(t *testing.T) {
	for _, d := range []api.Deposit{depositOf(1, 32*gwei), depositFor(1, gwei)} {
		x := expecting(withValidators(103, members(3, full)...), d)
		wantDeposit(t, "at first", x, d, nil)
		for i := range d.Proof {
			eachBit(d.Proof[i][:], func(what string) { wantNoBranch(t, fmt.Sprintf("Proof %d, %s", i, what), x, d) })
			e := d
			e.Proof[i] = api.Root{}
			wantNoBranch(t, fmt.Sprintf("Proof %d is zero", i), x, e)
			for k := range i {
				e = d
				e.Proof[i], e.Proof[k] = d.Proof[k], d.Proof[i]
				wantNoBranch(t, fmt.Sprintf("Proofs %d and %d the other way round", k, i), x, e)
			}
		}
		eachBit(x.Eth1.Deposits[:], func(what string) { wantNoBranch(t, "the root, "+what, x, d) })
		eachBit(d.Data.Key[:], func(what string) { wantNoBranch(t, "Key, "+what, x, d) })
		eachBit(d.Data.Credentials[:], func(what string) { wantNoBranch(t, "Credentials, "+what, x, d) })
		eachBit(d.Data.Sig[:], func(what string) { wantNoBranch(t, "Sig, "+what, x, d) })
		for bit := range 64 {
			e := d
			e.Data.Amount ^= 1 << bit
			wantNoBranch(t, fmt.Sprint("Amount, bit ", bit), x, e)
		}
		wantNoBranch(t, "all zero", x, api.Deposit{})
		for what, root := range map[string]api.Root{"zero": {}, "the Data's own": plainDataRoot(d.Data), "the message's": plainMessage(d.Data), "the first above": plainTwo(plainDataRoot(d.Data), d.Proof[0]), "beside": d.Proof[6]} {
			x.Eth1.Deposits = root
			wantNoBranch(t, "the root is "+what, x, d)
		}
		wantNoDeposit(t, "the zero state", api.State{}, d, nil, api.BadProof)
	}
}

// TestDepositOfAnotherPlace: bits of the place that are above the branch play no part, all others do.
func TestDepositOfAnotherPlace(t *testing.T) {
	for _, d := range []api.Deposit{depositOf(1, 32*gwei), depositFor(1, gwei)} {
		for _, place := range []uint64{0, 1, 9, 63, 64, 127} {
			x := withValidators(103, members(3, full)...)
			x.Deposits = place
			x = expecting(x, d)
			for other := range uint64(128) {
				x.Deposits = other
				if what := fmt.Sprintf("of %d at %d", place, other); other == place {
					wantDeposit(t, what, x, d, nil)
				} else {
					wantNoBranch(t, what, x, d)
				}
				x.Deposits += 128 * (other + 1)
				if what := fmt.Sprintf("of %d at %d", place, x.Deposits); other == place {
					wantDeposit(t, what, x, d, nil)
				} else {
					wantNoBranch(t, what, x, d)
				}
			}
		}
	}
}

// TestDepositOfCountAndBlock: of Eth1 the root alone counts.
func TestDepositOfCountAndBlock(t *testing.T) {
	d := depositOf(1, 32*gwei)
	x := expecting(withValidators(103, members(3, full)...), d)
	for _, count := range []uint64{0, 1, 8, 9, 10, 11, top} {
		x.Eth1.Count, x.Eth1.Block = count, rootOf("block", int(count%100))
		wantDeposit(t, fmt.Sprint("Count ", count), x, d, nil)
	}
	x.Votes = []api.Eth1{x.Eth1, x.Eth1}
	x.Eth1.Deposits = rootOf("no tree", 0)
	wantNoBranch(t, "the votes' root", x, d)
}

// TestDepositKeys: that of one, wherever it stands, of whatever kind it is.
func TestDepositKeys(t *testing.T) {
	for _, activation := range []uint64{0, 25, 26, far} {
		for _, exit := range []uint64{0, 25, 26, far} {
			for _, slashed := range []bool{false, true} {
				v := member(7, activation, exit)
				v.Withdrawable, v.Slashed = exit, slashed
				x := withValidators(103, member(full, 0, far), v, member(full, 0, far))
				d := depositFor(1, 5*gwei)
				y := wantDeposit(t, fmt.Sprint(v), expecting(x, d), d, nil)
				if y.Validators[1] != x.Validators[1] || y.Balances[1] != x.Balances[1]+5*gwei {
					t.Errorf("%v: %v, balance %d", v, y.Validators[1], y.Balances[1])
				}
			}
		}
	}
}

// TestDepositOfSeveralWithOneKey: the first of them is paid.
func TestDepositOfSeveralWithOneKey(t *testing.T) {
	for _, who := range [][]int{{0, 1}, {0, 5}, {1, 4}, {4, 5}, {2, 3, 5}, {0, 1, 2, 3, 4, 5}} {
		x := withValidators(103, members(6, full)...)
		d := depositOf(1, 5*gwei)
		for _, i := range who {
			x.Validators[i].Key = d.Data.Key
		}
		y := wantDeposit(t, fmt.Sprint(who), expecting(x, d), d, nil)
		for i := range 6 {
			want := x.Balances[i]
			if i == who[0] {
				want += 5 * gwei
			}
			if y.Balances[i] != want {
				t.Errorf("%d have the key: balance of %d is %d; want %d", who, i, y.Balances[i], want)
			}
		}
	}
}

// TestDepositOfAlmostAKey: one byte makes another one.
func TestDepositOfAlmostAKey(t *testing.T) {
	x := withValidators(103, members(3, full)...)
	for at := range 48 {
		d := depositFor(1, 5*gwei)
		d.Data.Key[at]++
		y := wantDeposit(t, fmt.Sprint("another byte ", at), expecting(x, d), d, nil)
		if len(y.Validators) != 4 || y.Balances[1] != x.Balances[1] {
			t.Errorf("another byte %d: %d validators, balances %d", at, len(y.Validators), y.Balances)
		}
	}
	d := depositOf(1, gwei)
	d.Data.Key = api.Key{}
	y := wantDeposit(t, "a key of zeros", expecting(x, d), d, nil)
	d.Proof[0] = api.Root{}
	if y = wantDeposit(t, "a key of zeros again", expecting(y, d), d, nil); len(y.Validators) != 4 || y.Balances[3] != 2*gwei {
		t.Errorf("a key of zeros again: %d validators, balances %d", len(y.Validators), y.Balances)
	}
	for _, key := range []api.Key{x.Sync.Keys[0], x.NextSync.Keys[3], x.Sync.Sum} {
		d.Data.Key = key
		wantDeposit(t, "a key of a committee, that no validator has", expecting(x, d), d, nil)
	}
}

// someAmounts around whole Increments, around the most that is effective, and up to the bound.
func someAmounts() map[uint64]uint64 {
	return map[uint64]uint64{
		0: 0, 1: 0, gwei - 1: 0, gwei: 1, gwei + 1: 1, 2*gwei - 1: 1, 2 * gwei: 2, 2*gwei + 1: 2, 16*gwei + 5: 16, 31*gwei - 1: 30, 31 * gwei: 31, 31*gwei + 1: 31,
		32*gwei - 1: 31, 32 * gwei: 32, 32*gwei + 1: 32, 33*gwei - 1: 32, 33 * gwei: 32, 33*gwei + 1: 32, 64 * gwei: 32, 1000 * gwei: 32,
		1<<32 - 1: 4, 1 << 32: 4, 1 << 40: 32, 1 << 56: 32, most - 1: 32, most: 32,
	}
}

func TestDepositAmounts(t *testing.T) {
	x := withValidators(103, members(3, full)...)
	x.Balances = []uint64{0, 0, 0}
	for amount, whole := range someAmounts() {
		d := depositOf(1, amount)
		y := wantDeposit(t, fmt.Sprint("a new one with ", amount), expecting(x, d), d, nil)
		if y.Validators[3].Effective != whole*gwei || y.Balances[3] != amount {
			t.Errorf("a new one with %d: Effective %d, balance %d", amount, y.Validators[3].Effective, y.Balances[3])
		}
		d = depositFor(1, amount)
		y = wantDeposit(t, fmt.Sprint("one who is there, and ", amount), expecting(x, d), d, nil)
		if y.Validators[1].Effective != 32*gwei || y.Balances[1] != amount {
			t.Errorf("one who is there, and %d: Effective %d, balance %d", amount, y.Validators[1].Effective, y.Balances[1])
		}
	}
}

// TestDepositTooMuch: above the bound, also where nothing else is there, and where a sum would wrap round to what may be.
func TestDepositTooMuch(t *testing.T) {
	for _, x := range []api.State{withValidators(103, members(3, full)...), withValidators(103)} {
		clear(x.Balances)
		for _, amount := range []uint64{most + 1, most + gwei, 1 << 58, 1<<63 - 1, 1 << 63, top - gwei, top - 1, top} {
			d := depositOf(1, amount)
			q := askedOfDeposit(d)
			wantNoDeposit(t, fmt.Sprint("a new one with ", amount), expecting(x, d), d, nil, api.ErrOver, q)
			y := wantDeposit(t, fmt.Sprint("a new one, bad, with ", amount), expecting(x, d), d, []api.Root{q})
			if len(y.Validators) != len(x.Validators) || y.Deposits != 10 {
				t.Errorf("a new one, bad, with %d: %d validators, Deposits %d", amount, len(y.Validators), y.Deposits)
			}
			for i := range x.Balances {
				d = depositFor(i, amount)
				for _, balance := range []uint64{0, 1, gwei, 1 << 40} {
					x.Balances[i] = balance
					wantNoDeposit(t, fmt.Sprintf("%d with %d, and %d", i, balance, amount), expecting(x, d), d, nil, api.ErrOver)
				}
				x.Balances[i] = 0
			}
		}
	}
}

// TestDepositSums: the balances together, just right and one above.
func TestDepositSums(t *testing.T) {
	for _, c := range []struct {
		balances []uint64
		amount   uint64
		is       api.Errno
	}{
		{[]uint64{most, 0, 0}, 0, api.OK}, {[]uint64{most, 0, 0}, 1, api.ErrOver}, {[]uint64{0, most, 0}, 1, api.ErrOver}, {[]uint64{0, 0, most}, gwei, api.ErrOver},
		{[]uint64{0, 0, most}, most, api.ErrOver}, {[]uint64{0, most, 0}, most, api.ErrOver}, {[]uint64{most - gwei, 0, 0}, gwei, api.OK}, {[]uint64{most - gwei, 0, 0}, gwei + 1, api.ErrOver},
		{[]uint64{1, 2, 3}, most - 6, api.OK}, {[]uint64{1, 2, 3}, most - 5, api.ErrOver}, {[]uint64{0, 0, 0}, most, api.OK}, {[]uint64{1, 0, 0}, most, api.ErrOver},
		{[]uint64{1 << 56, 1 << 55, 1 << 54}, 1 << 54, api.OK}, {[]uint64{1 << 56, 1 << 55, 1 << 54}, 1<<54 + 1, api.ErrOver},
	} {
		x := withValidators(103, members(3, full)...)
		x.Balances = c.balances
		mustRight(t, x)
		old, comer := depositFor(1, c.amount), depositOf(1, c.amount)
		q := askedOfDeposit(comer)
		if c.is == api.OK {
			wantDeposit(t, fmt.Sprint("one who is there: ", c), expecting(x, old), old, nil)
			wantDeposit(t, fmt.Sprint("a new one: ", c), expecting(x, comer), comer, nil)
		} else {
			wantNoDeposit(t, fmt.Sprint("one who is there: ", c), expecting(x, old), old, nil, c.is)
			wantNoDeposit(t, fmt.Sprint("a new one: ", c), expecting(x, comer), comer, nil, c.is, q)
		}
		wantDeposit(t, fmt.Sprint("a new one, bad: ", c), expecting(x, comer), comer, []api.Root{q})
	}
}

// TestDepositOfABadQuestion: it is taken, but nobody has anything of it.
func TestDepositOfABadQuestion(t *testing.T) {
	for _, n := range []int{0, 1, 3, 16} {
		x := withValidators(103, members(n, full)...)
		d := depositOf(1, 32*gwei)
		x = expecting(x, d)
		q := askedOfDeposit(d)
		for at := range 4 {
			bad := slices.Insert(rootsOf("another question", 3), at, q)
			y := wantDeposit(t, fmt.Sprintf("bad at %d, %d validators", at, n), x, d, bad)
			want := clone(x)
			want.Deposits = 10
			if !sameState(t, y, want) {
				t.Errorf("bad at %d, %d validators: more than Deposits changed", at, n)
			}
			// It may come once more, with another branch.
			y = wantDeposit(t, "once more", expecting(y, d), d, nil)
			if len(y.Validators) != n+1 || y.Deposits != 11 {
				t.Errorf("once more: %d validators, Deposits %d", len(y.Validators), y.Deposits)
			}
		}
	}
}

// TestDepositOfBadOnesThatArentAsked: neither almost the same nor another one's, nor any at all where nothing is asked.
func TestDepositOfBadOnesThatArentAsked(t *testing.T) {
	d := depositOf(1, 32*gwei)
	x := expecting(withValidators(103, members(3, full)...), d)
	q := askedOfDeposit(d)
	var bad []api.Root
	for at := range q {
		near := q
		near[at] ^= 1 << (at % 8)
		bad = append(bad, near)
	}
	for _, other := range []uint64{0, 31 * gwei, 33 * gwei} {
		bad = append(bad, askedOfDeposit(depositOf(1, other)), askedOfDeposit(depositOf(2, other)))
	}
	domain := plainDomain(x, 3, x.Slot/4) // that of the state, by which no deposit is signed
	keys := []api.Key{d.Data.Key}
	bad = append(bad, plainMessage(d.Data), plainDataRoot(d.Data), plainQuestion(keys, plainMessage(d.Data), domain, d.Data.Sig), plainQuestion(nil, plainMessage(d.Data), api.Root{3}, d.Data.Sig))
	bad = append(bad, plainQuestion(keys, plainDataRoot(d.Data), api.Root(append([]byte{3, 0, 0, 0}, hashOfZeros()...)), d.Data.Sig), api.Root{})
	if y := wantDeposit(t, "bad ones that aren't asked", x, d, bad); len(y.Validators) != 4 {
		t.Errorf("bad ones that aren't asked: %d validators", len(y.Validators))
	}
	d = depositFor(1, gwei)
	if y := wantDeposit(t, "one who is there", expecting(x, d), d, append(bad, askedOfDeposit(d))); y.Balances[1] != x.Balances[1]+gwei {
		t.Errorf("one who is there: balances %d", y.Balances)
	}
}

// hashOfZeros: the front of two zero chunks' hash, as it stands in a domain.
func hashOfZeros() []byte {
	hash := plainTwo(api.Root{}, api.Root{})
	return hash[:28]
}

// TestDepositAsks the same of each state, and something else of all other Data. The branch plays no part.
func TestDepositAsks(t *testing.T) {
	d := depositOf(1, 32*gwei)
	questions := map[api.Root]int{}
	ask := func(what string, x api.State, d api.Deposit) api.Root {
		x = expecting(x, d)
		wantDeposit(t, what, x, d, nil)
		_, asked, _ := join.Deposit(x, d, nil)
		if len(asked) != 1 {
			t.Fatalf("%s: asked %x", what, asked)
		}
		questions[asked[0]]++
		return asked[0]
	}
	for k, slot := range someSlots() {
		x := withValidators(slot, members(k%4, full)...)
		x.Fork = api.Fork{Previous: api.Version{byte(k)}, Current: api.Version{byte(k + 1)}, Epoch: uint64(k)}
		x.GenesisRoot, x.Deposits = rootOf("another genesis", k), uint64(k)
		e := d
		e.Proof[k%7] = rootOf("another branch", k)
		ask(fmt.Sprint("slot ", slot), x, e)
	}
	if len(questions) != 1 {
		t.Errorf("%d questions of the same Data", len(questions))
	}
	x := withValidators(103, members(3, full)...)
	others := 0
	for what, b := range map[string][]byte{"Key": d.Data.Key[:], "Credentials": d.Data.Credentials[:], "Sig": d.Data.Sig[:]} {
		for i := range b {
			b[i]++
			ask(fmt.Sprintf("another %s at %d", what, i), x, d)
			b[i]--
			others++
		}
	}
	for bit := range 57 {
		e := d
		e.Data.Amount = 1 << bit
		ask(fmt.Sprint("Amount, bit ", bit), x, e)
		others++
	}
	if len(questions) != 1+others {
		t.Errorf("%d questions of %d Datas", len(questions), 1+others)
	}
}

// fullRegistry: all validators that there may be but so many, with keys of their own.
func fullRegistry(but int) api.State {
	return withValidators(103, members(1<<16-but, full)...)
}

func TestDepositOfAFullRegistry(t *testing.T) {
	x := fullRegistry(0)
	d := depositFor(1<<16-1, 5*gwei)
	y := wantDeposit(t, "the last one of all", expecting(x, d), d, nil)
	if y.Balances[1<<16-1] != x.Balances[1<<16-1]+5*gwei {
		t.Errorf("the last one of all: balance %d", y.Balances[1<<16-1])
	}
	d = depositFor(0, most+1)
	wantNoDeposit(t, "too much, for the first one", expecting(x, d), d, nil, api.ErrOver)
	for _, amount := range []uint64{0, 32 * gwei, most, most + 1, top} {
		d = depositFor(100000, amount)
		q := askedOfDeposit(d)
		wantNoDeposit(t, fmt.Sprint("one more than all, with ", amount), expecting(x, d), d, nil, api.ErrLong, q)
		wantDeposit(t, fmt.Sprint("one more than all, bad, with ", amount), expecting(x, d), d, []api.Root{q})
		wantNoDeposit(t, fmt.Sprint("one more than all, elsewhere, with ", amount), x, d, nil, api.BadProof)
	}
	x = fullRegistry(1)
	d = depositFor(100000, 32*gwei)
	y = wantDeposit(t, "the last place", expecting(x, d), d, nil)
	if len(y.Validators) != 1<<16 {
		t.Errorf("the last place: %d validators", len(y.Validators))
	}
	e := depositFor(100001, 32*gwei)
	wantNoDeposit(t, "behind the last place", expecting(y, e), e, nil, api.ErrLong, askedOfDeposit(e))
	wantDeposit(t, "the last place, again", expecting(y, d), d, nil)
	d = depositFor(100000, most+1)
	wantNoDeposit(t, "too much, for the last place", expecting(x, d), d, nil, api.ErrOver, askedOfDeposit(d))
}

// fault is what may be wrong with a state, with a deposit or an exit for it, or with its signature.
type fault struct {
	want  api.Errno
	of    func(x *api.State, d *api.Deposit)
	isBad bool // its question is
	asked bool // if this one is told
}

// depositFaults in the order of the promise, of one whom nobody knows. That its question is bad is no error, but nothing behind it is asked any more, if not whether the state is right.
func depositFaults() []fault {
	return []fault{
		{want: api.ErrArg, of: func(x *api.State, d *api.Deposit) { x.Header.Slot = x.Slot + 1 }},
		{want: api.BadProof, of: func(x *api.State, d *api.Deposit) { x.Eth1.Deposits[5]++ }},
		{want: api.OK, isBad: true, asked: true},
		{want: api.ErrLong, asked: true, of: func(x *api.State, d *api.Deposit) {
			n := 1 << 16
			x.Validators = slices.Repeat(x.Validators[:1], n)
			x.Balances, x.Previous, x.Current, x.Scores = make([]uint64, n), make([]uint8, n), make([]uint8, n), make([]uint64, n)
		}},
		{want: api.ErrOver, asked: true, of: func(x *api.State, d *api.Deposit) { d.Data.Amount += most }},
		{want: api.ErrOver, asked: true, of: func(x *api.State, d *api.Deposit) { x.Deposits = lastDeposits }},
	}
}

// TestDepositRefusals: each by itself, two at once, and all others that there are together: the first one is answered.
func TestDepositRefusals(t *testing.T) {
	all := depositFaults()
	for which := range 1 << len(all) {
		x, d := withValidators(103, members(16, full)...), depositOf(1, 32*gwei)
		what, first, isBad := "wrong:", -1, false
		for _, i := range []int{0, 2, 3, 4, 5, 1} { // the root goes wrong once it is there
			if i == 1 {
				x = expecting(x, d)
			}
			if which>>i&1 == 0 {
				continue
			}
			f := all[i]
			if f.of != nil {
				f.of(&x, &d)
			}
			isBad = isBad || f.isBad
		}
		for i, f := range all {
			if which>>i&1 == 1 {
				if what += fmt.Sprintf(" %d (%d)", i, f.want); first < 0 {
					first = i
				}
			}
		}
		q := askedOfDeposit(d)
		bad := rootsOf("another question", 2)
		if isBad {
			bad = append(bad, q)
		}
		if first == 2 && which>>5 == 1 {
			first = 5
		}
		if first < 0 || all[first].want == api.OK {
			wantDeposit(t, what, x, d, bad)
		} else if all[first].asked {
			wantNoDeposit(t, what, x, d, bad, all[first].want, q)
		} else {
			wantNoDeposit(t, what, x, d, bad, all[first].want)
		}
	}
}

// TestDepositRefusalsOfOneWhoIsThere: nothing is asked, and a full registry is no fault.
func TestDepositRefusalsOfOneWhoIsThere(t *testing.T) {
	all := depositFaults()
	for which := range 1 << len(all) {
		x, d := withValidators(103, members(16, full)...), depositFor(0, 5*gwei)
		what, err := "wrong:", api.OK
		for _, i := range []int{5, 4, 3, 2, 1, 0} {
			if i == 1 {
				x = expecting(x, d)
			}
			if which>>i&1 == 0 {
				continue
			}
			f := all[i]
			what += fmt.Sprint(" ", i)
			if f.of != nil {
				f.of(&x, &d)
			}
			if i != 3 && i != 2 {
				err = f.want
			}
		}
		bad := []api.Root{askedOfDeposit(d)}
		if err == api.OK {
			wantDeposit(t, what, x, d, bad)
		} else {
			wantNoDeposit(t, what, x, d, bad, err)
		}
	}
}

func TestDepositOfStatesThatArentRight(t *testing.T) {
	for what, x := range notRight(t, withValidators(103, members(16, full)...)) {
		for _, d := range []api.Deposit{depositOf(1, 32*gwei), depositFor(0, gwei), depositOf(1, most+1), {}} {
			wantNoDeposit(t, what, expecting(x, d), d, nil, api.ErrArg)
			wantNoDeposit(t, what+", bad", expecting(x, d), d, []api.Root{askedOfDeposit(d)}, api.ErrArg)
			wantNoDeposit(t, what+", elsewhere", x, d, nil, api.ErrArg)
		}
	}
}
