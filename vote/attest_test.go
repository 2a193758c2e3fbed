package vote_test

import (
	"bytes"
	"fmt"
	"slices"
	"testing"

	"pharos/api"
	"pharos/state"
	"pharos/vote"
)

// P19.2

// withProposer finds a mix by which this one is the state's proposer. The committees of its epoch and of the previous one are others by then.
func withProposer(t *testing.T, x api.State, who uint64) api.State {
	t.Helper()
	for mix := range 10000 {
		x.Mixes[(x.Slot/4+6)%8] = rootOf("a mix for a proposer", mix)
		if proposer, ok := plainProposer(x); ok && proposer == who {
			return x
		}
	}
	t.Fatalf("no mix by which %d proposes", who)
	return x
}

// changedFlags tells who has other flags than before, in either list.
func changedFlags(before, after api.State) (previous, current []uint64) {
	for i := range before.Validators {
		if before.Previous[i] != after.Previous[i] {
			previous = append(previous, uint64(i))
		}
		if before.Current[i] != after.Current[i] {
			current = append(current, uint64(i))
		}
	}
	return previous, current
}

func TestAttestOfSlotsAndNumbers(t *testing.T) {
	for _, n := range []int{1, 2, 3, 7, 15, 16, 40, 300, 512} {
		for _, slot := range someSlots() {
			x := withValidators(slot, members(n, uint64(17+slot%16))...)
			for of := max(slot, 4) - 4; of < slot; of++ {
				for index := range plainCount(x, of/4) {
					a, what := attestAt(x, of, index), fmt.Sprintf("slot %d, of slot %d, index %d, %d validators", slot, of, index, n)
					if len(a.Bits) == 0 {
						wantNoAttest(t, what, x, a, nil, api.BadList)
						continue
					}
					wantAttest(t, what, x, a, nil)
				}
			}
		}
	}
}

// TestAttestOfAGreatRegistry, of whom few are active, the last ones among them.
func TestAttestOfAGreatRegistry(t *testing.T) {
	validators := slices.Repeat([]api.Validator{member(full, 0, 3)}, 1<<16)
	for i := range uint64(40) {
		validators[1<<16-1-i*i] = member(full, 0, far)
	}
	x := withValidators(103, validators...)
	for _, of := range []uint64{102, 99} {
		a := attestAt(x, of, 1)
		if len(a.Bits) != 5 {
			t.Fatalf("%d bits", len(a.Bits))
		}
		wantAttest(t, fmt.Sprint("of slot ", of), x, a, nil)
	}
}

// TestAttestWhichList: just one of both is changed, and there just the bytes of who attests.
func TestAttestWhichList(t *testing.T) {
	for _, c := range []struct {
		slot, of  uint64
		isCurrent bool
	}{
		{1, 0, true}, {2, 0, true}, {3, 2, true}, {3, 0, true}, // the epoch 0 is the previous one, too
		{4, 3, false}, {4, 0, false}, {5, 3, false}, {5, 4, true}, {7, 6, true}, {7, 3, false}, {8, 7, false}, {9, 8, true},
		{100, 99, false}, {101, 99, false}, {101, 100, true}, {102, 98, false}, {103, 99, false}, {103, 100, true}, {103, 102, true},
	} {
		x := withValidators(c.slot, members(40, full)...)
		a, what := attestAt(x, c.of, 1), fmt.Sprintf("slot %d, of slot %d", c.slot, c.of)
		a.Bits[2] = false
		who := plainWho(x, a)
		y := wantAttest(t, what, x, a, nil)
		want := [2][]uint64{who, nil}
		if c.isCurrent {
			want = [2][]uint64{nil, who}
		}
		previous, current := changedFlags(x, y)
		if len(who) != 4 || !slices.Equal(previous, want[0]) || !slices.Equal(current, want[1]) {
			t.Errorf("Attest, %s: Previous is changed of %d, Current of %d; want %d", what, previous, current, want)
		}
	}
}

// TestAttestBits: all that there may be of a committee of five.
func TestAttestBits(t *testing.T) {
	x := withValidators(103, members(40, full)...)
	committee := plainCommittee(x, 102, 0)
	if len(committee) != 5 || slices.IsSorted(committee) {
		t.Fatalf("the test's own committee is %d", committee)
	}
	for which := range 1 << 5 {
		a, what := attestAt(x, 102, 0), fmt.Sprintf("bits %05b", which)
		var who []uint64
		for i := range a.Bits {
			if a.Bits[i] = which>>i&1 == 1; a.Bits[i] {
				who = append(who, committee[i])
			}
		}
		slices.Sort(who)
		if who == nil {
			wantNoAttest(t, what, x, a, nil, api.BadList)
			continue
		}
		y := wantAttest(t, what, x, a, nil)
		if previous, current := changedFlags(x, y); !slices.Equal(current, who) || previous != nil {
			t.Errorf("Attest, %s: Current is changed of %d, Previous of %d; want %d", what, current, previous, who)
		}
	}
}

// TestAttestNobody: of committees of each size, those of nobody too.
func TestAttestNobody(t *testing.T) {
	for _, n := range []int{0, 1, 3, 16, 300, 512} {
		x := withValidators(102, members(n, full)...)
		for _, of := range []uint64{98, 99, 100, 101} {
			a := attestAt(x, of, 0)
			clear(a.Bits)
			what := fmt.Sprintf("of slot %d, %d validators", of, n)
			wantNoAttest(t, what, x, a, nil, api.BadList)
			a.Data.Source.Epoch++
			wantNoAttest(t, what+", another source", x, a, nil, api.BadSource)
		}
	}
	a := attestAt(withValidators(102), 101, 0)
	a.Bits = nil
	wantNoAttest(t, "nil, of a committee of nobody", withValidators(102), a, nil, api.BadList)
}

// TestAttestEachSet of flags that it may be worth, of validators that have each set already.
func TestAttestEachSet(t *testing.T) {
	seen := map[[2]uint8]bool{}
	for _, c := range []struct {
		delay           uint64
		target, block   bool
		worth           uint8
		slot, committee uint64
	}{
		{1, true, true, 7, 103, 0}, {1, true, false, 3, 103, 1}, {1, false, true, 1, 103, 0}, {2, true, true, 3, 103, 1}, {2, false, false, 1, 103, 0},
		{3, true, true, 2, 103, 1}, {3, false, true, 0, 103, 0}, {4, true, true, 2, 103, 1}, {4, false, false, 0, 103, 0}, // of the previous epoch
		{1, true, true, 7, 100, 0}, {2, true, false, 3, 100, 1}, {2, false, true, 1, 101, 0}, {4, true, false, 2, 100, 1}, {3, false, false, 0, 100, 0},
	} {
		for have := range uint8(8) {
			for _, others := range []uint8{0, 0xa8, 0xf8} {
				x := withValidators(c.slot, members(40, full)...)
				a := attestAt(x, c.slot-c.delay, c.committee)
				if !c.target {
					a.Data.Target.Root[0]++
				}
				if !c.block {
					a.Data.Block[0]++
				}
				list := func(x api.State) []uint8 {
					if a.Data.Target.Epoch == 25 {
						return x.Current
					}
					return x.Previous
				}
				for i := range x.Validators {
					list(x)[i] = others + have
				}
				what := fmt.Sprintf("%v, flags %b", c, others+have)
				y := wantAttest(t, what, x, a, nil)
				for _, i := range plainWho(x, a) {
					if list(y)[i] != others+(have|c.worth) {
						t.Errorf("Attest, %s: %d has %b", what, i, list(y)[i])
					}
				}
				if c.worth&^have == 0 && !sameState(t, x, y) {
					t.Errorf("Attest, %s: nothing is new, but something changed", what)
				}
				seen[[2]uint8{c.worth, have}] = true
			}
		}
	}
	if len(seen) != 5*8 {
		t.Errorf("%d pairs of sets were met", len(seen))
	}
}

// TestAttestOfMixedFlags: each who attests has another set of flags already.
func TestAttestOfMixedFlags(t *testing.T) {
	x := withValidators(102, members(64, full)...) // eight a committee
	a := attestAt(x, 101, 1)
	for k, i := range plainCommittee(x, 101, 1) {
		x.Current[i] = uint8(16*k + k)
	}
	y := wantAttest(t, "mixed flags", x, a, nil)
	proposer, _ := plainProposer(x)
	for k, i := range plainCommittee(x, 101, 1) {
		if y.Current[i] != uint8(16*k+7) {
			t.Errorf("%d had %b and has %b", i, x.Current[i], y.Current[i])
		}
	}
	// 64 of 32 Increments have 2048 * 10^9, of which the root is 1431083: 44721 an Increment. Four of the eight lack each flag.
	if want := uint64(32*44721*4*54) / 448; y.Balances[proposer] != x.Balances[proposer]+want {
		t.Errorf("the proposer was given %d; want %d", y.Balances[proposer]-x.Balances[proposer], want)
	}
}

// TestAttestTwice: the second one is taken, too, and changes nothing, and so does a later one that is worth less; one that is worth more changes what is new.
func TestAttestTwice(t *testing.T) {
	for _, n := range []int{1, 3, 16, 40} {
		for _, slot := range []uint64{100, 101, 102, 103} {
			x := withValidators(slot, members(n, full)...)
			for delay := uint64(1); delay <= 4; delay++ {
				a, what := attestAt(x, slot-delay, 0), fmt.Sprintf("slot %d, delay %d, %d validators", slot, delay, n)
				if len(a.Bits) == 0 {
					continue
				}
				y := wantAttest(t, what, x, a, nil)
				if z := wantAttest(t, what+", twice", y, a, nil); !sameState(t, y, z) {
					t.Errorf("Attest, %s: the second one changed something", what)
				}
				a.Data.Block[0]++
				if z := wantAttest(t, what+", of another block", y, a, nil); !sameState(t, y, z) {
					t.Errorf("Attest, %s: one of another block changed something", what)
				}
				a.Data.Target.Root[0]++
				y = wantAttest(t, what+", of another target at first", x, a, nil)
				a.Data.Target.Root[0]--
				z := wantAttest(t, what+", and then of the target", y, a, nil)
				if sameState(t, y, z) {
					t.Errorf("Attest, %s: what is new changed nothing", what)
				}
			}
		}
	}
}

// TestAttestOneBehindTheOther: of the rest of a committee, or of some who did already.
func TestAttestOneBehindTheOther(t *testing.T) {
	x := withValidators(103, members(40, full)...)
	all := attestAt(x, 102, 0)
	one, two := all, all
	one.Bits, two.Bits = []bool{true, false, true, false, false}, []bool{true, true, false, false, true}
	y := wantAttest(t, "two", x, one, nil)
	z := wantAttest(t, "then three, one of them again", y, two, nil)
	z = wantAttest(t, "then all", z, all, nil)
	at := wantAttest(t, "all at once", x, all, nil)
	if !bytes.Equal(z.Current, at.Current) {
		t.Errorf("flags %d; all at once %d", z.Current, at.Current)
	}
}

// TestAttestPays by hand: the sum of all is divided, once.
func TestAttestPays(t *testing.T) {
	for _, c := range []struct {
		n           int
		increments  uint64
		delay       uint64
		sum, wanted uint64
	}{
		// 16 of 32 have 512 * 10^9: root 715541, 89442 an Increment.
		{16, 32, 1, 2 * 32 * 89442 * 54, 689981},
		{16, 32, 2, 2 * 32 * 89442 * 40, 511097},
		{16, 32, 3, 2 * 32 * 89442 * 26, 332213},
		// 16 of one have 16 * 10^9: root 126491, 505964 an Increment.
		{16, 1, 1, 2 * 505964 * 54, 121973},
		{16, 1, 2, 2 * 505964 * 40, 90350},
		{16, 1, 3, 2 * 505964 * 26, 58727},
		// 40 of 17 have 680 * 10^9: root 824621, 77611 an Increment.
		{40, 17, 1, 5 * 17 * 77611 * 54, 795166},
		{40, 17, 2, 5 * 17 * 77611 * 40, 589012},
		{40, 17, 3, 5 * 17 * 77611 * 26, 382857},
		// 64 of 31 have 1984 * 10^9: root 1408545, 45436 an Increment.
		{64, 31, 1, 8 * 31 * 45436 * 54, 1358211},
		// 16 of none have an Increment all the same, but nothing comes of it.
		{16, 0, 1, 0, 0},
	} {
		x := withValidators(103, members(c.n, c.increments)...)
		for proposer := range uint64(3) { // of two that attest and one that doesn't, or all of those
			if c.increments < 32 && proposer > 0 {
				break
			}
			if c.increments > 0 {
				x = withProposer(t, x, proposer)
			} else if _, ok := plainProposer(x); !ok {
				x = withSomeProposer(t, x)
			}
			who, _ := plainProposer(x)
			what := fmt.Sprintf("%d of %d Increments, delay %d, proposer %d", c.n, c.increments, c.delay, who)
			y := wantAttest(t, what, x, attestAt(x, 103-c.delay, 1), nil)
			want := slices.Clone(x.Balances)
			want[who] += c.wanted
			if c.sum/448 != c.wanted || !slices.Equal(y.Balances, want) {
				t.Errorf("Attest, %s: balances %d; want %d", what, y.Balances, want)
			}
		}
	}
}

// withSomeProposer finds a mix by which somebody proposes, though nobody has much.
func withSomeProposer(t *testing.T, x api.State) api.State {
	t.Helper()
	for mix := range 1000 {
		x.Mixes[(x.Slot/4+6)%8] = rootOf("a mix for somebody", mix)
		if _, ok := plainProposer(x); ok {
			return x
		}
	}
	t.Fatal("no mix by which somebody proposes")
	return x
}

// TestAttestSumIsDividedOnce: neither each who attests nor each flag by itself, where that would be another number.
func TestAttestSumIsDividedOnce(t *testing.T) {
	r := uint64(0)
	met := [3]int{}
	for increments := uint64(1); increments <= 32; increments++ {
		for n := 20; n < 60; n += 13 {
			x := withValidators(103, members(n, increments)...)
			x = withSomeProposer(t, x)
			a := attestAt(x, 102, 0)
			proposer, _ := plainProposer(x)
			y := wantAttest(t, fmt.Sprintf("%d of %d Increments", n, increments), x, a, nil)
			given := y.Balances[proposer] - x.Balances[proposer]
			r = plainReward(x, 0).Uint64()
			members := uint64(len(a.Bits))
			if given != members*r*54/448 {
				t.Errorf("%d of %d Increments: given %d; want %d", n, increments, given, members*r*54/448)
			}
			if given != members*(r*54/448) {
				met[0]++
			}
			if given != members*r*14/448+members*r*26/448+members*r*14/448 {
				met[1]++
			}
			if members*r*54%448 != 0 {
				met[2]++
			}
		}
	}
	if met[0] == 0 || met[1] == 0 || met[2] == 0 {
		t.Errorf("cases in which it matters: %d", met)
	}
}

// TestAttestOfMixedBalances: each one's flags are worth what it has.
func TestAttestOfMixedBalances(t *testing.T) {
	validators := members(48, 0)
	for i := range validators {
		validators[i].Effective = uint64(i%33) * gwei
	}
	for _, slot := range []uint64{100, 101, 102, 103} {
		x := withValidators(slot, validators...)
		for i := range x.Validators {
			x.Previous[i], x.Current[i] = uint8(i), uint8(i/2)
		}
		for of := slot - 4; of < slot; of++ {
			for index := range uint64(2) {
				for skip := range 6 {
					a := attestAt(x, of, index)
					a.Bits[skip] = false
					wantAttest(t, fmt.Sprintf("slot %d, of slot %d, index %d, without %d", slot, of, index, skip), x, a, nil)
				}
			}
		}
	}
}

// TestAttestRewardIsOfTheStatesEpoch: who is active then makes All, not who was in the target's.
func TestAttestRewardIsOfTheStatesEpoch(t *testing.T) {
	for _, exit := range []uint64{25, 26, far} { // of half of them; who leaves at 25 isn't active any more, but was in 24
		for _, come := range []uint64{24, 25, 26} { // of further ones
			validators := slices.Concat(members(10, full), slices.Repeat([]api.Validator{member(full, 0, exit)}, 10), slices.Repeat([]api.Validator{member(31, come, far)}, 12))
			x := withValidators(101, validators...)
			for index := range plainCount(x, 24) {
				wantAttest(t, fmt.Sprintf("exits %d, activations %d", exit, come), x, attestAt(x, 99, index), nil)
			}
			wantAttest(t, fmt.Sprintf("exits %d, activations %d, of the epoch", exit, come), x, attestAt(x, 100, 0), nil)
		}
	}
	// By hand: in epoch 24 there were 16, in epoch 25 there are two; one of those who were there has 32 Increments, of which each is 64 * 10^9 / 252982 (the root of 64 * 10^9) = 252982.
	x := withValidators(101, append(members(2, full), slices.Repeat([]api.Validator{member(full, 0, 25)}, 14)...)...)
	a := attestAt(x, 99, 1)
	a.Bits[1] = false
	proposer, _ := plainProposer(x)
	y := wantAttest(t, "those who are left", x, a, nil)
	if given := y.Balances[proposer] - x.Balances[proposer]; given != 32*252982*40/448 {
		t.Errorf("given %d", given)
	}
}

// TestAttestOfSlashedAndGone: who attests has its flags, slashed or not, and active no more.
func TestAttestOfSlashedAndGone(t *testing.T) {
	validators := slices.Repeat([]api.Validator{member(full, 0, far), member(full, 0, 25), member(full, 24, 25)}, 8)
	for i := range validators {
		validators[i].Slashed = i%2 == 0
	}
	x := withValidators(101, validators...)
	for index := range uint64(2) {
		a := attestAt(x, 99, index)
		y := wantAttest(t, "slashed and gone", x, a, nil)
		for _, i := range plainCommittee(x, 99, index) {
			if y.Previous[i] != x.Previous[i]+3 {
				t.Errorf("%d has %b", i, y.Previous[i])
			}
		}
	}
}

// TestAttestOfTheProposer: it may attest itself, and is given its part for that, too.
func TestAttestOfTheProposer(t *testing.T) {
	met := 0
	for who := range uint64(16) {
		x := withProposer(t, withValidators(103, members(16, full)...), who)
		for index := range uint64(2) {
			a := attestAt(x, 102, index)
			y := wantAttest(t, fmt.Sprintf("proposer %d, index %d", who, index), x, a, nil)
			if at := slices.Index(plainCommittee(x, 102, index), who); at >= 0 {
				met++
				alone := a
				alone.Bits = make([]bool, 2)
				alone.Bits[at] = true
				z := wantAttest(t, fmt.Sprintf("proposer %d alone", who), x, alone, nil)
				if z.Current[who] != x.Current[who]+7 || z.Balances[who] != x.Balances[who]+32*89442*54/448 || y.Balances[who] != x.Balances[who]+64*89442*54/448 {
					t.Errorf("proposer %d: flags %b, balances %d and %d", who, z.Current[who], z.Balances[who], y.Balances[who])
				}
			}
		}
	}
	one := withValidators(103, member(full, 0, far))
	if y := wantAttest(t, "one alone", one, attestAt(one, 99, 0), nil); y.Previous[0] != 2 || met == 0 {
		t.Errorf("one alone: %b; met %d times", y.Previous[0], met)
	}
}

// TestAttestProposerIsOfTheState: its slot's, not that of the Data's.
func TestAttestProposerIsOfTheState(t *testing.T) {
	others := 0
	for slot := uint64(100); slot < 140; slot++ {
		x := withValidators(slot, members(16, full)...)
		then := x
		then.Slot--
		proposer, _ := plainProposer(x)
		earlier, _ := plainProposer(then)
		y := wantAttest(t, fmt.Sprint("slot ", slot), x, attestAt(x, slot-1, 0), nil)
		for i := range uint64(16) {
			if rose := y.Balances[i] != x.Balances[i]; rose != (i == proposer) {
				t.Errorf("slot %d, proposer %d: the balance of %d: %v", slot, proposer, i, rose)
			}
		}
		if proposer != earlier {
			others++
		}
	}
	if others == 0 {
		t.Error("the proposer is the same everywhere")
	}
}

// TestAttestLong: 64 bits may be, 65 not, whatever else is wrong, and whatever the committee is.
func TestAttestLong(t *testing.T) {
	for _, n := range []int{500, 512, 513, 519, 520, 600} { // at first committees of 62 or 63, then of 64, at last of 65 and more
		x := withValidators(103, members(n, full)...)
		for _, of := range []uint64{102, 99} {
			for index := range uint64(2) {
				a := attestAt(x, of, index)
				what := fmt.Sprintf("a committee of %d", len(a.Bits))
				if len(a.Bits) <= 64 {
					wantAttest(t, what, x, a, nil)
				} else {
					wantNoAttest(t, what, x, a, nil, api.ErrLong)
				}
			}
		}
	}
	x := withValidators(103, members(512, full)...)
	for _, bits := range []int{0, 1, 63, 65, 66, 128, 100000} {
		want := api.BadBits
		if bits > 64 {
			want = api.ErrLong
		}
		a := attestAt(x, 102, 0)
		a.Bits = bitsOf(bits)
		wantNoAttest(t, fmt.Sprint("bits: ", bits), x, a, nil, want)
		a.Bits = make([]bool, bits)
		wantNoAttest(t, fmt.Sprint("bits that aren't set: ", bits), x, a, nil, want)
		if bits > 64 {
			for _, d := range []api.Data{{}, dataAt(x, 103, 0), dataAt(x, 98, 0), dataAt(x, 102, 2), {Slot: top}} {
				a.Data = d
				wantNoAttest(t, fmt.Sprintf("bits: %d, and more that is wrong", bits), x, a, nil, api.ErrLong)
			}
		}
	}
	wantAttest(t, "64", x, attestAt(x, 102, 0), nil)
	wantNoAttest(t, "65 to the zero state", api.State{}, api.Attest{Bits: bitsOf(65)}, nil, api.ErrLong)
	wantNoAttest(t, "64 to the zero state", api.State{}, api.Attest{Bits: bitsOf(64)}, nil, api.BadDelay)
}

// TestAttestIndex: below the count of the committees of the slot's own epoch.
func TestAttestIndex(t *testing.T) {
	for _, c := range []struct {
		stay, leave, come int
		previous, current uint64 // committees a slot
	}{
		{1, 0, 0, 1, 1}, {15, 0, 0, 1, 1}, {16, 0, 0, 2, 2}, {40, 0, 0, 2, 2}, {12, 4, 0, 2, 1}, {12, 0, 4, 1, 2}, {12, 4, 4, 2, 2}, {12, 3, 3, 1, 1},
	} {
		validators := slices.Concat(members(c.stay, full), slices.Repeat([]api.Validator{member(full, 0, 25)}, c.leave), slices.Repeat([]api.Validator{member(full, 25, far)}, c.come))
		x := withValidators(101, validators...)
		for of, count := range map[uint64]uint64{99: c.previous, 100: c.current} {
			for _, index := range []uint64{0, 1, 2, 3, 7, 8, 1 << 32, 1 << 62, 1 << 63, top} {
				what := fmt.Sprintf("%v, of slot %d, index %d", c, of, index)
				a := attestAt(x, of, min(index, count-1))
				a.Data.Index = index
				switch {
				case index >= count:
					wantNoAttest(t, what, x, a, nil, api.BadIndex)
				case len(a.Bits) == 0:
					wantNoAttest(t, what, x, a, nil, api.BadList)
				default:
					wantAttest(t, what, x, a, nil)
				}
			}
		}
	}
}

// TestAttestBitsAreAsManyAsMembers, neither fewer nor more.
func TestAttestBitsAreAsManyAsMembers(t *testing.T) {
	for _, n := range []int{0, 1, 2, 3, 5, 15, 16, 17, 40, 505} {
		x := withValidators(102, members(n, full)...)
		for of := uint64(98); of < 102; of++ {
			for index := range plainCount(x, of/4) {
				a := attestAt(x, of, index)
				size := len(a.Bits)
				for bits := max(0, size-2); bits <= min(64, size+2); bits++ {
					what := fmt.Sprintf("of slot %d, index %d, %d validators, %d bits", of, index, n, bits)
					a.Bits = bitsOf(bits)
					switch {
					case bits != size:
						wantNoAttest(t, what, x, a, nil, api.BadBits)
					case bits == 0:
						wantNoAttest(t, what, x, a, nil, api.BadList)
					default:
						wantAttest(t, what, x, a, nil)
					}
				}
			}
		}
	}
}

// attestFault is what may be wrong with a state, with an attestation for it, or with its signature.
type attestFault struct {
	want     api.Errno
	ofState  func(x *api.State)
	ofAttest func(a *api.Attest)
	isAsked  bool // ahead of it
}

// attestFaults in the order of the promise, of a state at slot 101 with validators and an attestation of slot 99.
func attestFaults() []attestFault {
	return []attestFault{
		{want: api.ErrArg, ofState: func(x *api.State) { x.Scores = append(x.Scores, 1) }},
		{want: api.ErrLong, ofAttest: func(a *api.Attest) { a.Bits = append(a.Bits, bitsOf(70)...) }},
		{want: api.BadEpoch, ofAttest: func(a *api.Attest) { a.Data.Target.Epoch-- }},
		{want: api.BadDelay, ofAttest: func(a *api.Attest) { a.Data.Slot = 96 }},
		{want: api.BadIndex, ofAttest: func(a *api.Attest) { a.Data.Index = 2 }},
		{want: api.BadBits, ofAttest: func(a *api.Attest) { a.Bits = append(a.Bits, true) }},
		{want: api.BadSource, ofAttest: func(a *api.Attest) { a.Data.Source.Root[31]++ }},
		{want: api.BadList, ofAttest: func(a *api.Attest) { clear(a.Bits) }},
		{want: api.BadSig, isAsked: true},
		{want: api.ErrNone, isAsked: true, ofState: func(x *api.State) {
			for i := range x.Validators {
				x.Validators[i].Exit = 25
			}
		}},
		{want: api.ErrOver, isAsked: true, ofState: func(x *api.State) {
			clear(x.Balances)
			x.Balances[7] = most
		}},
	}
}

// TestAttestRefusals: each by itself, two at once, and all others that there are together: the first one is answered, and the question beside it, if it was asked by then.
func TestAttestRefusals(t *testing.T) {
	all := attestFaults()
	for which := range 1 << len(all) {
		x := withValidators(101, members(16, full)...)
		a := attestAt(x, 99, 1)
		right := a
		what, first, bad := "wrong:", -1, rootsOf("question", 2)
		for i, f := range all {
			if which>>i&1 == 0 {
				continue
			}
			if what += fmt.Sprintf(" %d", f.want); first < 0 {
				first = i
			}
			if f.ofState != nil {
				f.ofState(&x)
			}
			if f.ofAttest != nil {
				f.ofAttest(&a)
			}
			if f.want == api.BadSig {
				bad = append(bad, askedOf(x, right))
			}
		}
		switch {
		case first < 0:
			wantAttest(t, "nothing wrong", x, a, bad)
		case all[first].isAsked:
			wantNoAttest(t, what, x, a, bad, all[first].want, askedOf(x, a))
		default:
			wantNoAttest(t, what, x, a, bad, all[first].want)
		}
	}
}

// TestAttestRefusalsOfTheEpoch: those of Flags, of attestations of the state's own epoch.
func TestAttestRefusalsOfTheEpoch(t *testing.T) {
	x := withValidators(102, members(16, full)...)
	for what, c := range map[string]struct {
		change func(a *api.Attest)
		want   api.Errno
	}{
		"the next epoch":                 {func(a *api.Attest) { a.Data.Target.Epoch = 26 }, api.BadEpoch},
		"the previous one":               {func(a *api.Attest) { a.Data.Target.Epoch = 24 }, api.BadEpoch},
		"the one below it":               {func(a *api.Attest) { a.Data.Target.Epoch, a.Data.Slot = 23, 95 }, api.BadEpoch},
		"the next one, and its slot":     {func(a *api.Attest) { a.Data.Target.Epoch, a.Data.Slot = 26, 104 }, api.BadEpoch},
		"another epoch, another source":  {func(a *api.Attest) { a.Data.Target.Epoch, a.Data.Source.Epoch = 26, 1 }, api.BadEpoch},
		"the state's own slot":           {func(a *api.Attest) { a.Data.Slot = 102 }, api.BadDelay},
		"one above":                      {func(a *api.Attest) { a.Data.Slot = 103 }, api.BadDelay},
		"too early, and another index":   {func(a *api.Attest) { a.Data.Slot, a.Data.Index = 102, 2 }, api.BadDelay},
		"too early, and another source":  {func(a *api.Attest) { a.Data.Slot, a.Data.Source.Root = 102, api.Root{} }, api.BadDelay},
		"too late, and no bits":          {func(a *api.Attest) { a.Data = dataAt(x, 97, 0); a.Bits = nil }, api.BadDelay},
		"another source, another index":  {func(a *api.Attest) { a.Data.Source, a.Data.Index = x.OldJust, 2 }, api.BadIndex},
		"another source, and more bits":  {func(a *api.Attest) { a.Data.Source = x.OldJust; a.Bits = bitsOf(3) }, api.BadBits},
		"another source, and none set":   {func(a *api.Attest) { a.Data.Source = x.OldJust; clear(a.Bits) }, api.BadSource},
		"the source of the previous one": {func(a *api.Attest) { a.Data.Source = x.OldJust }, api.BadSource},
		"of the previous one, of Just":   {func(a *api.Attest) { a.Data = dataAt(x, 99, 0); a.Data.Source = x.Just }, api.BadSource},
		"another source's epoch":         {func(a *api.Attest) { a.Data.Source.Epoch++ }, api.BadSource},
		"another source's root":          {func(a *api.Attest) { a.Data.Source.Root[0]++ }, api.BadSource},
		"another index, and more bits":   {func(a *api.Attest) { a.Data.Index = 2; a.Bits = bitsOf(3) }, api.BadIndex},
		"more bits, and none set":        {func(a *api.Attest) { a.Bits = make([]bool, 3) }, api.BadBits},
	} {
		a := attestAt(x, 101, 0)
		q := askedOf(x, a)
		c.change(&a)
		wantNoAttest(t, what, x, a, []api.Root{q}, c.want)
		wantNoAttest(t, what+", nothing bad", x, a, nil, c.want)
		a.Bits = append(a.Bits, bitsOf(65)...)
		wantNoAttest(t, what+", and too many bits", x, a, nil, api.ErrLong)
	}
}

// TestAttestBad: at each place among others.
func TestAttestBad(t *testing.T) {
	for _, of := range []uint64{99, 100, 101} {
		x := withValidators(102, members(40, full)...)
		a := attestAt(x, of, 1)
		a.Bits[3] = false
		q := askedOf(x, a)
		for n := range 6 {
			for at := range n + 1 {
				wantNoAttest(t, fmt.Sprint("bad at ", at), x, a, slices.Insert(rootsOf("question", n), at, q), api.BadSig, q)
			}
			wantAttest(t, fmt.Sprint("others alone: ", n), x, a, rootsOf("question", n))
		}
		for bit := range 256 {
			near := q
			near[bit/8] ^= 1 << (bit % 8)
			wantAttest(t, fmt.Sprint("nearly bad, bit ", bit), x, a, []api.Root{near})
		}
		wantNoAttest(t, "bad twice", x, a, []api.Root{q, q}, api.BadSig, q)
		wantAttest(t, "an empty list", x, a, []api.Root{})
		wantAttest(t, "zeros are bad", x, a, []api.Root{{}})
	}
}

// TestAttestNotAsked: questions that are bad, but are others.
func TestAttestNotAsked(t *testing.T) {
	x := withValidators(102, members(40, full)...)
	x.Fork.Epoch = 25
	for _, of := range []uint64{99, 101} {
		a := attestAt(x, of, 0)
		a.Bits[1] = false
		who, committee := plainWho(x, a), plainCommittee(x, of, 0)
		keys, root, target := keysOf(x, who), plainDataRoot(a.Data), a.Data.Target.Epoch
		domain := plainDomain(x, 1, target)
		backward := slices.Clone(keys)
		slices.Reverse(backward)
		var unsorted []uint64 // as the committee stands
		for i, member := range committee {
			if a.Bits[i] {
				unsorted = append(unsorted, member)
			}
		}
		if slices.IsSorted(unsorted) {
			t.Fatalf("the test's own committee rises: %d", unsorted)
		}
		var bad []api.Root
		for _, others := range [][]api.Key{nil, keys[:1], keys[1:], keys[:2], backward, append(slices.Clone(keys), keys[0]), keysOf(x, unsorted), keysOf(x, committee), x.Sync.Keys[:]} {
			bad = append(bad, plainQuestion(others, root, domain, a.Sig))
		}
		for _, key := range keys {
			bad = append(bad, plainQuestion([]api.Key{key}, root, domain, a.Sig))
		}
		for _, kind := range []byte{0, 2, 3, 4, 7} {
			bad = append(bad, plainQuestion(keys, root, plainDomain(x, kind, target), a.Sig))
		}
		bad = append(bad,
			plainQuestion(keys, root, plainDomain(x, 1, 49-target), a.Sig), // of the other version
			plainQuestion(keys, root, domain, sigOf(2)),
			plainQuestion(keys, domain, root, a.Sig), root, domain, plainTwo(root, domain))
		wantAttest(t, fmt.Sprint("questions that aren't asked, of slot ", of), x, a, bad)
		q := askedOf(x, a)
		wantNoAttest(t, fmt.Sprint("the question behind them, of slot ", of), x, a, append(bad, q), api.BadSig, q)
		a.Bits[1] = true
		wantAttest(t, fmt.Sprint("one more attests, of slot ", of), x, a, []api.Root{q})
	}
}

// TestAttestDomain is by the target's epoch, not by the state's or the source's.
func TestAttestDomain(t *testing.T) {
	for _, fork := range []uint64{0, 22, 23, 24, 25, 26, top} {
		for _, of := range []uint64{98, 99, 100, 101} {
			x := withValidators(102, members(16, full)...)
			x.Fork.Epoch = fork
			wantAttest(t, fmt.Sprintf("a fork of epoch %d, of slot %d", fork, of), x, attestAt(x, of, 0), nil)
		}
	}
	x := withValidators(102, members(16, full)...)
	x.Fork.Epoch = 25
	old, now := attestAt(x, 99, 0), attestAt(x, 100, 0)
	y := x
	y.Fork.Current = api.Version{9, 9, 9, 9}
	if askedOf(x, old) != askedOf(y, old) || askedOf(x, now) == askedOf(y, now) {
		t.Error("the test's own versions don't matter as they should")
	}
	wantNoAttest(t, "of ahead of the fork, another version of now", y, old, []api.Root{askedOf(x, old)}, api.BadSig, askedOf(x, old))
	wantAttest(t, "of the fork's epoch, another version of now", y, now, []api.Root{askedOf(x, now)})
}

// TestAttestQuestionIsOfAll that is signed, and of the signature: each byte of it counts.
func TestAttestQuestionIsOfAll(t *testing.T) {
	x := withValidators(102, members(40, full)...)
	a := attestAt(x, 101, 0)
	before := []api.Root{askedOf(x, a)}
	for at := range 96 {
		b := a
		b.Sig[at] ^= 4
		wantAttest(t, fmt.Sprint("another signature at ", at), x, b, before)
	}
	for at := range 32 {
		b := a
		b.Data.Block[at] ^= 4
		wantAttest(t, fmt.Sprint("another block at ", at), x, b, before)
		b = a
		b.Data.Target.Root[at] ^= 4
		wantAttest(t, fmt.Sprint("another target at ", at), x, b, before)
		y := x
		y.GenesisRoot[at] ^= 4
		wantAttest(t, fmt.Sprint("another genesis at ", at), y, a, before)
		y = x
		y.Just.Root[at] ^= 4
		wantAttest(t, fmt.Sprint("another source at ", at), y, attestAt(y, 101, 0), before)
	}
	for at := range 48 {
		for _, i := range plainCommittee(x, 101, 0) {
			y := clone(x)
			y.Validators[i].Key[at] ^= 4
			wantAttest(t, fmt.Sprintf("another key of %d at %d", i, at), y, a, before)
		}
	}
	y := clone(x)
	for i := range y.Validators {
		if !slices.Contains(plainCommittee(x, 101, 0), uint64(i)) {
			y.Validators[i].Key[0]++
		}
	}
	wantNoAttest(t, "other keys of others", y, a, before, api.BadSig, before...)
}

// TestAttestOfOneKey: two validators may have the same one; both are asked for.
func TestAttestOfOneKey(t *testing.T) {
	x := withValidators(102, members(16, full)...)
	for i := range x.Validators {
		x.Validators[i].Key = keyOf(5)
	}
	a := attestAt(x, 101, 0)
	once := plainQuestion([]api.Key{keyOf(5)}, plainDataRoot(a.Data), plainDomain(x, 1, 25), a.Sig)
	wantAttest(t, "one key of two", x, a, []api.Root{once})
	q := askedOf(x, a)
	wantNoAttest(t, "one key of two", x, a, []api.Root{once, q}, api.BadSig, q)
}

// withoutProposer: states of slot 101 whose epoch has no actives, or none who is taken, but in whose previous epoch there were.
func withoutProposer(t *testing.T) []api.State {
	t.Helper()
	all := []api.State{
		withValidators(101, slices.Repeat([]api.Validator{member(full, 0, 25)}, 16)...),
		withValidators(101, slices.Repeat([]api.Validator{member(full, 24, 25)}, 3)...),
		withValidators(101, append(slices.Repeat([]api.Validator{member(full, 0, 25)}, 9), slices.Repeat([]api.Validator{member(full, 26, far)}, 9)...)...),
		withValidators(101, append(slices.Repeat([]api.Validator{member(full, 0, 25)}, 9), member(full, 0, 3))...),
	}
	poor := withValidators(101, append(slices.Repeat([]api.Validator{member(full, 0, 25)}, 9), members(7, 0)...)...)
	for mix := 0; ; mix++ {
		poor.Mixes[(25+6)%8] = rootOf("a mix for nobody", mix)
		if _, ok := plainProposer(poor); !ok {
			break
		}
	}
	all = append(all, poor)
	for _, x := range all {
		mustRight(t, x)
		if _, ok := plainProposer(x); ok {
			t.Fatal("the test's own state has a proposer")
		}
	}
	return all
}

func TestAttestWithoutProposer(t *testing.T) {
	for k, x := range withoutProposer(t) {
		for _, of := range []uint64{97, 98, 99} {
			a := attestAt(x, of, 0)
			if len(a.Bits) == 0 {
				continue
			}
			q, what := askedOf(x, a), fmt.Sprintf("state %d, of slot %d", k, of)
			wantNoAttest(t, what, x, a, nil, api.ErrNone, q)
			wantNoAttest(t, what+", bad", x, a, []api.Root{q}, api.BadSig, q)
			b := a
			b.Data.Source = x.Just
			wantNoAttest(t, what+", another source", x, b, nil, api.BadSource)
			b = a
			b.Bits = make([]bool, len(a.Bits))
			wantNoAttest(t, what+", nobody attests", x, b, nil, api.BadList)
			y := clone(x) // nothing is to be given, but who would be is asked all the same
			for i := range y.Previous {
				y.Previous[i] = 7
			}
			wantNoAttest(t, what+", all have all flags", y, a, nil, api.ErrNone, q)
			y = clone(x) // nobody is left whom it may be given to
			clear(y.Balances)
			y.Balances[0] = most
			wantNoAttest(t, what+", balances that are as great as they may be", y, a, nil, api.ErrNone, q)
		}
		a := api.Attest{Data: dataAt(x, 100, 0)}
		if len(plainActives(x, 25)) == 0 {
			wantNoAttest(t, "a committee of nobody", x, a, nil, api.BadList)
			a.Bits = bitsOf(1)
			wantNoAttest(t, "a committee of nobody, one bit", x, a, nil, api.BadBits)
		}
	}
}

// TestAttestAtTheBound: balances together behind which the state is just right, and one more.
func TestAttestAtTheBound(t *testing.T) {
	for _, of := range []uint64{99, 100, 101} {
		x := withValidators(102, members(16, full)...)
		a := attestAt(x, of, 1)
		proposer, _ := plainProposer(x)
		before := wantAttest(t, "far from the bound", x, a, nil)
		given := before.Balances[proposer] - x.Balances[proposer]
		q, what := askedOf(x, a), fmt.Sprintf("of slot %d, given %d", of, given)
		for _, rich := range []uint64{proposer, (proposer + 1) % 16} {
			y := clone(x)
			clear(y.Balances)
			y.Balances[rich] = most - given
			z := wantAttest(t, what+", just right", y, a, nil)
			y.Balances[rich]++
			wantNoAttest(t, what+", one above", y, a, nil, api.ErrOver, q)
			wantNoAttest(t, what+", one above, and bad", y, a, []api.Root{q}, api.BadSig, q)
			y.Balances[rich] = most
			wantNoAttest(t, what+", far above", y, a, nil, api.ErrOver, q)
			if z = wantAttest(t, what+", again", z, a, nil); !state.Right(z) {
				t.Error("what is answered isn't right")
			}
			for i := range y.Validators { // nothing is given, so the greatest balances may stay
				y.Previous[i], y.Current[i] = 7, 7
			}
			wantAttest(t, what+", all have all flags", y, a, nil)
		}
	}
}

func TestAttestOfStatesThatArentRight(t *testing.T) {
	right := withValidators(103, members(16, full)...)
	a := attestAt(right, 102, 0)
	q := askedOf(right, a)
	for what, x := range notRight(t, right) {
		for _, d := range []api.Data{{}, a.Data, dataAt(right, 99, 1), dataAt(right, 103, 0), dataAt(right, 80, 0), dataAt(right, 102, 9), dataAt(x, x.Slot-1, 0)} {
			for _, bits := range []int{0, 1, 2, 3, 64, 65} {
				wantNoAttest(t, what, x, api.Attest{Bits: bitsOf(bits), Data: d, Sig: a.Sig}, nil, api.ErrArg)
			}
			wantNoAttest(t, what+", nobody attests", x, api.Attest{Bits: make([]bool, 2), Data: d}, []api.Root{q}, api.ErrArg)
		}
		wantNoAttest(t, what+", and bad", x, a, []api.Root{q}, api.ErrArg)
	}
}

// TestAttestFlagsAreThoseOfFlags: whatever is worth something, is worth that.
func TestAttestFlagsAreThoseOfFlags(t *testing.T) {
	for slot := uint64(1); slot < 20; slot++ {
		x := withValidators(slot, members(16, full)...)
		for of := range slot + 2 {
			a := api.Attest{Bits: bitsOf(2), Data: dataAt(x, of, 0)}
			flags, err := vote.Flags(x, a.Data)
			y, asked, err2 := vote.Attest(x, a, nil)
			if err != err2 || (err == api.OK) != (asked != nil) {
				t.Errorf("slot %d, of slot %d: Flags' error %d, Attest's %d", slot, of, err, err2)
			}
			if err != api.OK {
				continue
			}
			list, before := y.Previous, x.Previous
			if of/4 == slot/4 {
				list, before = y.Current, x.Current
			}
			for _, i := range plainCommittee(x, of, 0) {
				for flag, is := range flags {
					if list[i]>>flag&1 == 1 != is || list[i]>>3 != before[i]>>3 {
						t.Errorf("slot %d, of slot %d: Flags %v, %d has %b", slot, of, flags, i, list[i])
					}
				}
			}
		}
	}
}
