package choir_test

import (
	"fmt"
	"slices"
	"testing"

	"pharos/api"
	"pharos/choir"
	"pharos/state"
)

// alone: one validator, who proposes and stands in all places of the committee, with a balance.
func alone(balance uint64) api.State {
	x := withCommittee(withValidators(103, member(full, 0, far)), 0, 0, 0, 0, 0, 0, 0, 0)
	x.Balances[0] = balance
	return x
}

const (
	loneShare = 11180 // of one with 32 Increments
	loneMore  = 1597
)

// TestOneInAllPlaces: what is taken of a small balance leaves nothing, and what is given behind that stays.
func TestOneInAllPlaces(t *testing.T) {
	const both = loneShare + loneMore
	for _, c := range []struct {
		bits          string
		balance, want uint64
	}{
		{"........", 8 * loneShare, 0}, {"........", 8*loneShare + 1, 1}, {"........", 8*loneShare - 1, 0}, {"........", loneShare, 0}, {"........", 1, 0}, {"........", 0, 0},
		{"xxxxxxxx", 0, 8 * both}, {"xxxxxxxx", 5, 8*both + 5},
		{".......x", 0, both}, {"......x.", 0, loneMore}, {"x.......", 0, 0}, {"x.......", 7 * loneShare, both}, {"x.......", 6 * loneShare, loneMore},
		{"xx......", 4 * loneShare, 2 * loneMore}, {"xx......", 0, 0}, {".......x", 7 * loneShare, both}, {".......x", 7*loneShare + 1, both + 1}, {".......x", 3 * loneShare, both},
		{".x.x.x.x", 0, both + 3*loneMore}, {"x.x.x.x.", 0, 4 * loneMore}, {"xxxx....", 0, 4 * loneMore}, {"....xxxx", 0, 4 * both}, {"....xxxx", 4*loneShare - 1, 4 * both}, {"..xx..xx", loneShare, 2*both + 2*loneMore},
	} {
		what := fmt.Sprintf("%s, of %d", c.bits, c.balance)
		if y := wantSync(t, what, alone(c.balance), signedBy(c.bits), nil); y.Balances[0] != c.want {
			t.Errorf("%s: %d; want %d", what, y.Balances[0], c.want)
		}
	}
}

// TestSmallBalances of all members, with each set of bits, at each balance around what is taken.
func TestSmallBalances(t *testing.T) {
	for k, committee := range [][]int{{0, 1, 2, 3, 4, 5, 6, 7}, {0, 0, 1, 1, 2, 2, 3, 3}, {3, 2, 1, 0, 0, 1, 2, 3}, {5, 6, 5, 6, 5, 6, 5, 6}} {
		x := withCommittee(withValidators(uint64(100+k), members(9, full)...), committee...)
		share, more := wantShares(t, "of nine", x)
		for _, a := range eachBits() {
			for _, balance := range []uint64{0, 1, more, share - 1, share, share + 1, 2*share - 1, 2 * share} {
				x.Balances = slices.Repeat([]uint64{balance}, 9)
				wantSync(t, fmt.Sprintf("%d, %v, of %d", committee, a.Bits, balance), x, a, nil)
			}
		}
	}
}

// TestProposerInTheCommittee with its bit set and not, at each place, and not there.
func TestProposerInTheCommittee(t *testing.T) {
	for _, slot := range []uint64{1, 99, 100, 101, 102, 103} {
		x := withValidators(slot, members(16, full)...)
		proposer, _ := plainProposer(x)
		other := (int(proposer) + 1) % 16
		share, more := wantShares(t, "of 16", x)
		for place := -1; place < 8; place++ {
			committee := slices.Repeat([]int{other}, 8)
			if place >= 0 {
				committee[place] = int(proposer)
			}
			y := withCommittee(x, committee...)
			for _, a := range eachBits() {
				set := uint64(0)
				for _, bit := range a.Bits {
					if bit {
						set++
					}
				}
				want := x.Balances[proposer] + set*more
				switch {
				case place >= 0 && a.Bits[place]:
					want += share
				case place >= 0:
					want -= share
				}
				what := fmt.Sprintf("slot %d, the proposer at %d, %v", slot, place, a.Bits)
				if z := wantSync(t, what, y, a, nil); z.Balances[proposer] != want {
					t.Errorf("%s: its balance is %d; want %d", what, z.Balances[proposer], want)
				}
			}
		}
	}
}

// TestSharesAreOfTheStateAhead: that a balance falls or rises changes no share in between.
func TestSharesAreOfTheStateAhead(t *testing.T) {
	x := withValidators(103, members(8, full)...)
	x.Balances = make([]uint64, 8)
	share, more := wantShares(t, "ahead", x)
	y := wantSync(t, "all sign", x, signedBy("xxxxxxxx"), nil)
	proposer, _ := plainProposer(x)
	for i, balance := range y.Balances {
		want := share
		if uint64(i) == proposer {
			want += 8 * more
		}
		if balance != want {
			t.Errorf("balance of %d is %d; want %d", i, balance, want)
		}
	}
	if again, least := wantShares(t, "behind", y); again != share || least != more {
		t.Errorf("behind: %d, %d; want %d, %d", again, least, share, more)
	}
}

// TestBalancesAtTheMost: just what the state behind it has counts, not what there was in between.
func TestBalancesAtTheMost(t *testing.T) {
	for _, c := range []struct {
		bits string
		up   int64 // of all balances
	}{
		{"xxxxxxxx", 8 * (loneShare + loneMore)}, {"x.......", loneMore - 6*loneShare}, {".......x", loneMore - 6*loneShare}, {"xxxx....", 4 * loneMore}, {"....xxxx", 4 * loneMore},
		{"xxx.....", 3*loneMore - 2*loneShare}, {"........", -8 * loneShare}, {"xxxxx...", 5*loneMore + 2*loneShare},
	} {
		a := signedBy(c.bits)
		for _, spare := range []int64{0, 1, 2, max(c.up, 1) - 1, max(c.up, 0), max(c.up, 0) + 1} {
			x := alone(uint64(most - spare))
			mustRight(t, x)
			what := fmt.Sprintf("%s, where %d are spare", c.bits, spare)
			if c.up > spare {
				wantNoSync(t, what, x, a, nil, api.ErrOver, askedOf(x, a))
				wantNoSync(t, what+", bad", x, a, []api.Root{askedOf(x, a)}, api.BadSig, askedOf(x, a))
				continue
			}
			if y := wantSync(t, what, x, a, nil); y.Balances[0] != uint64(most-spare+c.up) {
				t.Errorf("%s: balance %d", what, y.Balances[0])
			}
		}
	}
	wantSync(t, "nobody signs", alone(most), nobodySigns(), nil)
	x := withCommittee(withValidators(103, members(9, full)...), 1, 2, 3, 4, 5, 6, 7, 8)
	x.Balances = []uint64{most - 8, 1, 1, 1, 1, 1, 1, 1, 1}
	for _, a := range eachBits() {
		if want := plainSync(x, a, nil); want.err != api.OK {
			wantNoSync(t, fmt.Sprint("of many, ", a.Bits), x, a, nil, api.ErrOver, askedOf(x, a))
		} else {
			wantSync(t, fmt.Sprint("of many, ", a.Bits), x, a, nil)
		}
	}
	x.Sync.Keys[7] = keyOf(500)
	wantNoSync(t, "and nobody has a key", x, signedBy("xxxxxxxx"), nil, api.BadWho, askedOf(x, signedBy("xxxxxxxx")))
}

// fault is what may be wrong with a state, or with a signature in it.
type fault struct {
	want  api.Errno
	of    func(x *api.State)
	isBad bool
	asked bool
}

// faults in the order of the promise, of a state of the slot 103 with 16 validators.
func faults() []fault {
	return []fault{
		{want: api.ErrArg, of: func(x *api.State) { x.Final.Epoch = 26 }},
		{want: api.BadSlot, of: func(x *api.State) { x.Slot, x.Header.Slot = 0, 0 }},
		{want: api.BadSig, isBad: true, asked: true},
		{want: api.ErrNone, asked: true, of: func(x *api.State) {
			for i := range x.Validators {
				x.Validators[i].Activation = 26
			}
		}},
		{want: api.BadWho, asked: true, of: func(x *api.State) { x.Sync.Keys[7] = keyOf(500) }},
		{want: api.BadWho, asked: true, of: func(x *api.State) { x.Sync.Keys[0] = keyOf(501) }},
		{want: api.ErrOver, asked: true, of: func(x *api.State) {
			x.Balances[9] = 0
			x.Balances[9] = most - sum(x.Balances)
		}},
	}
}

// faulty: a state of which so many things are wrong, and the first of them, or less than 0.
func faulty(which int) (x api.State, isBad bool, what string, first int) {
	x = withValidators(103, members(16, full)...)
	what, first = "wrong:", -1
	for i, f := range faults() {
		if which>>i&1 == 0 {
			continue
		}
		if what += fmt.Sprintf(" %d (%d)", i, f.want); first < 0 {
			first = i
		}
		if f.of != nil {
			f.of(&x)
		}
		isBad = isBad || f.isBad
	}
	return x, isBad, what, first
}

// TestRefusals: each by itself, two at once, and all others that there are together: the first one is answered.
func TestRefusals(t *testing.T) {
	all := faults()
	for which := range 1 << len(all) {
		x, isBad, what, first := faulty(which)
		for _, a := range []api.SyncAggregate{signedBy("xxxxxxxx"), signedBy("xxxxxxx."), nobodySigns()} {
			q := askedOf(x, a)
			bad := rootsOf("another question", 2)
			if isBad {
				bad = append(bad, q)
			}
			asked, want := []api.Root{q}, first
			if a == nobodySigns() {
				asked = nil
				want = firstOf(which &^ (1<<2 | 1<<6)) // nothing is asked, and balances fall
			}
			switch {
			case want < 0:
				wantSync(t, what, x, a, bad)
			case all[want].asked:
				wantNoSync(t, what, x, a, bad, all[want].want, asked...)
			default:
				wantNoSync(t, what, x, a, bad, all[want].want)
			}
		}
	}
}

// firstOf a set, or less than 0.
func firstOf(which int) int {
	for i := range 16 {
		if which>>i&1 != 0 {
			return i
		}
	}
	return -1
}

func sum(l []uint64) uint64 {
	all := uint64(0)
	for _, n := range l {
		all += n
	}
	return all
}

func TestSyncOfStatesThatArentRight(t *testing.T) {
	right := withValidators(103, members(16, full)...)
	for what, x := range notRight(t, right) {
		for _, a := range []api.SyncAggregate{{}, nobodySigns(), signedBy("x"), signedBy("xxxxxxxx")} {
			wantNoSync(t, what, x, a, nil, api.ErrArg)
			wantNoSync(t, what+", bad", x, a, []api.Root{askedOf(right, a)}, api.ErrArg)
		}
	}
	early := withValidators(0, members(3, full)...)
	early.Final.Epoch = 1
	wantNoSync(t, "slot 0", early, nobodySigns(), nil, api.ErrArg)
	over := alone(most + 1)
	if state.Right(over) {
		t.Fatal("the test's own state is right")
	}
	wantNoSync(t, "behind which it would be right", over, nobodySigns(), nil, api.ErrArg)
}

func TestSyncOfAFullRegistry(t *testing.T) {
	n := 1 << 16
	x := withValidators(103, members(n, full)...)
	x = withCommittee(x, n-1, 0, n-1, n-2, 1<<15, 1<<15-1, n-1, 1)
	for i := range x.Balances {
		x.Balances[i] = 3 * gwei
	}
	for _, a := range []api.SyncAggregate{nobodySigns(), signedBy("x.xx...x"), signedBy("xxxxxxxx")} {
		wantSync(t, fmt.Sprint("bits ", a.Bits), x, a, nil)
	}
	a := signedBy("x")
	x.Sync.Keys[0] = keyOf(n)
	wantNoSync(t, "one behind all", x, a, nil, api.BadWho, askedOf(x, a))
	if share, more := choir.Shares(x); share != 2861056 || more != 408722 {
		t.Errorf("Shares: %d, %d", share, more)
	}
}
