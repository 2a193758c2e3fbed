package vote_test

import (
	"fmt"
	"slices"
	"testing"

	"pharos/api"
	"pharos/state"
	"pharos/vote"
)

// someSlots of all remainders, in the first epochs, around the fork, and the greatest one.
func someSlots() []uint64 {
	return []uint64{0, 1, 2, 3, 4, 5, 6, 7, 8, 9, 27, 28, 31, 32, 33, 35, 39, 40, 41, 43, 44, 60, 63, 64, 100, 101, 102, 103, 1 << 32, 1<<32 + 5, lastSlot - 4, lastSlot - 3, lastSlot - 2, lastSlot - 1, lastSlot}
}

// notRight: states that aren't right, each by a small change of this one, which has a validator at least.
func notRight(t *testing.T, x api.State) map[string]api.State {
	t.Helper()
	changes := map[string]func(y *api.State){
		"a balance more":             func(y *api.State) { y.Balances = append(slices.Clone(y.Balances), 1) },
		"a flag less":                func(y *api.State) { y.Previous = y.Previous[1:] },
		"no flags":                   func(y *api.State) { y.Current = nil },
		"a score less":               func(y *api.State) { y.Scores = y.Scores[1:] },
		"validators alone":           func(y *api.State) { y.Balances, y.Previous, y.Current, y.Scores = nil, nil, nil, nil },
		"a validator less":           func(y *api.State) { y.Validators = y.Validators[1:] },
		"nine votes":                 func(y *api.State) { y.Votes = eth1sOf(9) },
		"too long a history":         func(y *api.State) { y.History = make([]api.Root, 1025) },
		"too late a slot":            func(y *api.State) { y.Slot = 1 << 40 },
		"the greatest slot":          func(y *api.State) { y.Slot = top },
		"a header of later":          func(y *api.State) { y.Header.Slot = y.Slot + 1 },
		"too many deposits":          func(y *api.State) { y.Deposits = 1 << 40 },
		"a checkpoint of later":      func(y *api.State) { y.OldJust.Epoch = y.Slot/4 + 1 },
		"justified later":            func(y *api.State) { y.Just.Epoch = y.Slot/4 + 1 },
		"final later":                func(y *api.State) { y.Final.Epoch = top },
		"a crooked balance":          ofFirst(func(v *api.Validator) { v.Effective-- }),
		"too great a balance":        ofFirst(func(v *api.Validator) { v.Effective = 33 * gwei }),
		"too late an eligibility":    ofFirst(func(v *api.Validator) { v.Eligible = lastEpoch + 1 }),
		"too late an activation":     ofFirst(func(v *api.Validator) { v.Activation = lastEpoch + 1 }),
		"too late an exit":           ofFirst(func(v *api.Validator) { v.Exit = top - 1 }),
		"too late a withdrawal":      ofFirst(func(v *api.Validator) { v.Withdrawable = lastEpoch + 1 }),
		"too great a score":          func(y *api.State) { y.Scores = slices.Repeat([]uint64{1<<40 + 1}, len(y.Scores)) },
		"too much together":          func(y *api.State) { y.Balances = slices.Repeat([]uint64{most + 1}, len(y.Balances)) },
		"balances that wrap":         func(y *api.State) { y.Balances = slices.Repeat([]uint64{1 << 63}, len(y.Balances)) },
		"slashings above all":        func(y *api.State) { y.Slashings[7] = most + 1 },
		"slashings that wrap":        func(y *api.State) { y.Slashings[0], y.Slashings[7] = 1<<63, 1<<63 },
		"too many validators":        tooMany,
		"nobody, but one balance":    func(y *api.State) { *y = withValidators(y.Slot); y.Balances = []uint64{1} },
		"a late slot and no actives": func(y *api.State) { *y = withValidators(1 << 40) },
	}
	all := map[string]api.State{}
	for what, change := range changes {
		y := x
		change(&y)
		if state.Right(y) {
			t.Fatalf("the test's own state is right: %s", what)
		}
		all[what] = y
	}
	return all
}

// ofFirst changes the first validator, in a list of its own.
func ofFirst(change func(v *api.Validator)) func(y *api.State) {
	return func(y *api.State) {
		y.Validators = slices.Clone(y.Validators)
		change(&y.Validators[0])
	}
}

func tooMany(y *api.State) {
	n := 1<<16 + 1
	y.Validators = slices.Repeat(y.Validators[:1], n)
	y.Balances, y.Previous, y.Current, y.Scores = make([]uint64, n), make([]uint8, n), make([]uint8, n), make([]uint64, n)
}

// The chapter's examples.

func TestExamples(t *testing.T) {
	x := withValidators(103, members(16, full)...)
	a := attestAt(x, 102, 0)
	wantFlags(t, "of the slot ahead", x, a.Data, "STH")
	y := wantAttest(t, "of the slot ahead", x, a, nil)
	for _, i := range plainCommittee(x, 102, 0) {
		if y.Current[i] != x.Current[i]+7 {
			t.Errorf("%d has the flags %b; it had %b", i, y.Current[i], x.Current[i])
		}
	}
	if z := wantAttest(t, "twice", y, a, nil); !sameState(t, y, z) {
		t.Error("twice: the second one changed something")
	}
}

// P19.1

// TestFlagsOfSlotsAndEpochs: all slots and targets around each state's, and far from it. The flags that are told by hand are those of Datas that are right but for their Slot or their Target.Epoch.
func TestFlagsOfSlotsAndEpochs(t *testing.T) {
	byDelay := map[uint64]string{1: "STH", 2: "ST", 3: "T", 4: "T"}
	for _, slot := range someSlots() {
		x := withValidators(slot, members(2, full)...)
		slots := []uint64{0, 1, 1 << 41, 1 << 63, 1<<62 + slot, 1<<63 + slot, top - 1, top}
		for i := range uint64(24) { // from twelve below to eleven above, wrapped round at the beginning
			slots = append(slots, slot-12+i)
		}
		for _, of := range slots {
			for _, target := range []uint64{of / 4, of/4 - 1, of/4 + 1, slot / 4, slot/4 - 1, slot/4 - 2, slot/4 + 1, 0, 1 << 62, top} {
				d := dataAt(x, of, 1)
				d.Target.Epoch = target
				what := fmt.Sprintf("the state's slot %d, the Data's %d, of epoch %d", slot, of, target)
				letters, ok := byDelay[slot-of]
				switch {
				case target != of/4, target > slot/4, target < slot/4 && target+1 != slot/4:
					wantNoFlags(t, what, x, d, api.BadEpoch)
				case !ok:
					wantNoFlags(t, what, x, d, api.BadDelay)
				default:
					wantFlags(t, what, x, d, letters)
				}
			}
		}
	}
}

// TestFlagsEpochs: the epoch and the previous one may be, no other one.
func TestFlagsEpochs(t *testing.T) {
	for _, c := range []struct {
		slot, of, target uint64
		want             api.Errno
	}{
		{102, 101, 25, api.OK}, {101, 99, 24, api.OK}, {100, 96, 24, api.OK}, {103, 100, 25, api.OK},
		{100, 95, 23, api.BadEpoch}, {103, 95, 23, api.BadEpoch}, // one below the previous one
		{103, 104, 26, api.BadEpoch}, {100, 104, 26, api.BadEpoch}, // one above
		{102, 101, 24, api.BadEpoch}, {102, 101, 26, api.BadEpoch}, {101, 99, 25, api.BadEpoch}, {101, 99, 23, api.BadEpoch}, // not the slot's
		{102, 101, 25 + 1<<62, api.BadEpoch}, {102, 101, 25 + 1<<63, api.BadEpoch}, {102, 101, top, api.BadEpoch}, {102, 101, 0, api.BadEpoch}, // four times it wraps round
		{1, 0, 0, api.OK}, {2, 0, 0, api.OK}, {3, 0, 0, api.OK}, {3, 2, 0, api.OK}, // both are the same
		{3, 2, 1, api.BadEpoch}, {3, 2, top, api.BadEpoch}, {3, 4, 1, api.BadEpoch}, {0, top, top / 4, api.BadEpoch}, {0, 0, top, api.BadEpoch},
		{4, 3, 0, api.OK}, {4, 0, 0, api.OK}, {5, 4, 1, api.OK}, {5, 4, 0, api.BadEpoch}, {7, 8, 2, api.BadEpoch},
		{8, 7, 1, api.OK}, {8, 4, 1, api.OK}, {9, 8, 2, api.OK}, {8, 3, 0, api.BadEpoch}, {11, 3, 0, api.BadEpoch}, {8, 0, 0, api.BadEpoch},
	} {
		x := withValidators(c.slot, members(2, full)...)
		d := dataAt(x, c.of, 0)
		d.Target.Epoch = c.target
		if _, err := vote.Flags(x, d); err != c.want {
			t.Errorf("Flags, slot %d, of slot %d and epoch %d: error %d; want %d", c.slot, c.of, c.target, err, c.want)
		}
	}
}

// TestFlagsDelays: from one to four slots.
func TestFlagsDelays(t *testing.T) {
	for _, slot := range []uint64{100, 101, 102, 103} {
		x := withValidators(slot)
		for delay, letters := range map[uint64]string{1: "STH", 2: "ST", 3: "T", 4: "T"} {
			wantFlags(t, fmt.Sprintf("slot %d, delay %d", slot, delay), x, dataAt(x, slot-delay, 0), letters)
		}
		wantNoFlags(t, fmt.Sprint("the state's own, ", slot), x, dataAt(x, slot, 0), api.BadDelay)
		above := map[bool]api.Errno{false: api.BadDelay, true: api.BadEpoch}[slot == 103] // of the next epoch
		wantNoFlags(t, fmt.Sprint("one above, slot ", slot), x, dataAt(x, slot+1, 0), above)
		five := map[bool]api.Errno{false: api.BadDelay, true: api.BadEpoch}[slot == 100] // of the epoch below the previous one
		wantNoFlags(t, fmt.Sprint("delay 5, slot ", slot), x, dataAt(x, slot-5, 0), five)
	}
	x := withValidators(103)
	wantNoFlags(t, "delay 6", x, dataAt(x, 97, 0), api.BadDelay)
	wantNoFlags(t, "delay 7", x, dataAt(x, 96, 0), api.BadDelay)
	for _, first := range []api.State{{}, withValidators(0), withValidators(0, members(3, full)...)} {
		wantNoFlags(t, "nothing is below slot 0", first, dataAt(first, 0, 0), api.BadDelay)
		wantNoFlags(t, "above slot 0", first, dataAt(first, 3, 0), api.BadDelay)
		wantNoFlags(t, "zeros", first, api.Data{}, api.BadDelay)
		wantNoFlags(t, "below slot 0", first, api.Data{Slot: top}, api.BadEpoch)
	}
}

// TestFlagsSource: each bit of it counts, and it has to be that of the target's epoch.
func TestFlagsSource(t *testing.T) {
	for _, c := range []struct {
		slot, of uint64
		letters  string
		isJust   bool
	}{
		{102, 101, "STH", true}, {102, 100, "ST", true}, {103, 100, "T", true}, {101, 100, "STH", true},
		{100, 99, "STH", false}, {101, 99, "ST", false}, {102, 99, "T", false}, {100, 96, "T", false},
		{1, 0, "STH", true}, {3, 2, "STH", true}, {3, 0, "T", true}, // epoch 0
		{4, 3, "STH", false}, {5, 3, "ST", false}, {5, 4, "STH", true},
	} {
		x := withValidators(c.slot, members(3, full)...)
		d, what := dataAt(x, c.of, 0), fmt.Sprintf("slot %d, of slot %d", c.slot, c.of)
		right, other := x.OldJust, x.Just
		if c.isJust {
			right, other = x.Just, x.OldJust
		}
		if right == other {
			t.Fatalf("%s: both sources of the test's own state are the same", what)
		}
		d.Source = right
		wantFlags(t, what, x, d, c.letters)
		d.Source = other
		wantNoFlags(t, what+", of the other epoch", x, d, api.BadSource)
		d.Source = x.Final
		wantNoFlags(t, what+", final", x, d, api.BadSource)
		for bit := range 64 {
			d.Source = right
			d.Source.Epoch ^= 1 << bit
			wantNoFlags(t, fmt.Sprintf("%s, bit %d of the source's epoch", what, bit), x, d, api.BadSource)
		}
		for bit := range 256 {
			d.Source = right
			d.Source.Root[bit/8] ^= 1 << (bit % 8)
			wantNoFlags(t, fmt.Sprintf("%s, bit %d of the source's root", what, bit), x, d, api.BadSource)
		}
		d.Source = api.Checkpoint{Epoch: right.Epoch, Root: other.Root}
		wantNoFlags(t, what+", the other one's root", x, d, api.BadSource)
		if right.Epoch != other.Epoch {
			d.Source = api.Checkpoint{Epoch: other.Epoch, Root: right.Root}
			wantNoFlags(t, what+", the other one's epoch", x, d, api.BadSource)
		}
		x.Just, x.OldJust = right, right
		d.Source = right
		wantFlags(t, what+", both are the same", x, d, c.letters)
	}
}

// TestFlagsEachSet that there may be: by the delay, and by a target's and a block's root that are right or not.
func TestFlagsEachSet(t *testing.T) {
	seen := map[string]bool{}
	for slot := uint64(100); slot < 108; slot++ {
		x := withValidators(slot, members(2, full)...)
		for _, c := range []struct {
			delay                     uint64
			target, block, both, none string
		}{
			{1, "ST", "S", "STH", "S"},
			{2, "ST", "S", "ST", "S"},
			{3, "T", "", "T", ""},
			{4, "T", "", "T", ""},
		} {
			both := dataAt(x, slot-c.delay, 0)
			target, block, none := both, both, both
			target.Block, none.Block = rootOf("another", 0), rootOf("another", 0)
			block.Target.Root, none.Target.Root = rootOf("another", 1), rootOf("another", 1)
			what := fmt.Sprintf("slot %d, delay %d, ", slot, c.delay)
			wantFlags(t, what+"both are right", x, both, c.both)
			wantFlags(t, what+"the target is", x, target, c.target)
			wantFlags(t, what+"the block is", x, block, c.block)
			wantFlags(t, what+"neither is", x, none, c.none)
			for _, letters := range []string{c.both, c.target, c.block, c.none} {
				seen[letters] = true
			}
		}
	}
	if len(seen) != 5 {
		t.Errorf("sets of flags that were met: %v", seen)
	}
}

// TestFlagsRoots: each bit of the target's and of the block's root counts.
func TestFlagsRoots(t *testing.T) {
	for slot := uint64(100); slot < 108; slot++ {
		x := withValidators(slot)
		for bit := range 256 {
			d := dataAt(x, slot-1, 0)
			d.Target.Root[bit/8] ^= 1 << (bit % 8)
			wantFlags(t, fmt.Sprintf("slot %d, bit %d of the target's root", slot, bit), x, d, "S")
			d = dataAt(x, slot-1, 0)
			d.Block[bit/8] ^= 1 << (bit % 8)
			wantFlags(t, fmt.Sprintf("slot %d, bit %d of the block", slot, bit), x, d, "ST")
		}
	}
}

// TestFlagsPlaces of the roots in the state: that of the target's first slot, and that of the Data's own.
func TestFlagsPlaces(t *testing.T) {
	for slot := uint64(96); slot < 104; slot++ {
		for delay := uint64(1); delay <= 4; delay++ {
			x := withValidators(slot)
			d := dataAt(x, slot-delay, 0)
			all, err := vote.Flags(x, d)
			for place := range uint64(8) {
				y := x
				y.BlockRoots[place][31] ^= 128
				want := all
				if place == d.Slot%8 {
					want[2] = false
				}
				if place == d.Slot/4*4%8 {
					want[1], want[2] = false, false
				}
				got, err2 := vote.Flags(y, d)
				if got != want || err != api.OK || err2 != api.OK {
					t.Errorf("Flags, slot %d, delay %d, another root at %d: %v; want %v", slot, delay, place, got, want)
				}
				y.StateRoots[place][0]++
				if got, err := vote.Flags(y, d); got != want || err != api.OK {
					t.Errorf("Flags, slot %d, delay %d, another state's root at %d: %v; want %v", slot, delay, place, got, want)
				}
			}
		}
	}
}

// TestFlagsOfAFirstSlot: the target's root and the block are those of one place, but each is looked at by itself.
func TestFlagsOfAFirstSlot(t *testing.T) {
	for _, slot := range []uint64{1, 5, 9, 101, 105} {
		x := withValidators(slot)
		d := dataAt(x, slot-1, 0)
		if d.Block != d.Target.Root {
			t.Fatal("the test's own Data isn't of a first slot")
		}
		wantFlags(t, "a first slot", x, d, "STH")
		d.Block[7]++
		wantFlags(t, "a first slot, another block", x, d, "ST")
		d.Block, d.Target.Root = d.Target.Root, d.Block
		wantFlags(t, "a first slot, another target", x, d, "S")
	}
}

// TestFlagsOfZeros: roots of zeros are roots like others.
func TestFlagsOfZeros(t *testing.T) {
	x := api.State{Slot: 7}
	zeros := api.Data{Slot: 6, Target: api.Checkpoint{Epoch: 1}}
	wantFlags(t, "zeros", x, zeros, "STH")
	x.BlockRoots[6][0] = 1
	wantFlags(t, "zeros, and another block", x, zeros, "ST")
	x.BlockRoots[4][0] = 1
	wantFlags(t, "zeros, and another target", x, zeros, "S")
	wantFlags(t, "zeros in epoch 0", api.State{Slot: 1}, api.Data{}, "STH")
	wantFlags(t, "zeros in epoch 0, delay 4", api.State{Slot: 4}, api.Data{}, "T")
	wantNoFlags(t, "zeros in epoch 1, delay 5", api.State{Slot: 5}, api.Data{}, api.BadDelay)
}

// TestFlagsOfAnyIndex: whether there is such a committee isn't asked here.
func TestFlagsOfAnyIndex(t *testing.T) {
	for _, n := range []int{0, 1, 16, 300} {
		x := withValidators(103, members(n, full)...)
		for _, index := range []uint64{0, 1, 2, 1 << 32, top} {
			wantFlags(t, fmt.Sprintf("index %d, %d validators", index, n), x, dataAt(x, 102, index), "STH")
		}
	}
}

// TestFlagsFirstFault: of several, the promise's first.
func TestFlagsFirstFault(t *testing.T) {
	right := withValidators(101, members(3, full)...)
	for _, of := range []uint64{96, 99} { // too late, and in time
		for _, target := range []uint64{24, 23} {
			for _, source := range []uint64{23, 24} {
				x := right
				d := dataAt(x, of, 0)
				d.Target.Epoch, d.Source.Epoch = target, source
				what := fmt.Sprintf("of slot %d, target %d, source %d", of, target, source)
				switch {
				case target == 23:
					wantNoFlags(t, what, x, d, api.BadEpoch)
				case of == 96:
					wantNoFlags(t, what, x, d, api.BadDelay)
				case source == 24:
					wantNoFlags(t, what, x, d, api.BadSource)
				default:
					wantFlags(t, what, x, d, "ST")
				}
				x.Scores = nil
				wantNoFlags(t, what+", not right", x, d, api.ErrArg)
			}
		}
	}
}

func TestFlagsOfStatesThatArentRight(t *testing.T) {
	right := withValidators(103, members(16, full)...)
	for what, x := range notRight(t, right) {
		for _, d := range []api.Data{{}, dataAt(right, 102, 0), dataAt(right, 99, 0), dataAt(right, 103, 0), dataAt(right, 80, 0), dataAt(x, x.Slot-1, 0), {Slot: x.Slot, Target: api.Checkpoint{Epoch: x.Slot / 4}}} {
			wantNoFlags(t, what, x, d, api.ErrArg)
			d.Source.Epoch++
			wantNoFlags(t, what+", another source", x, d, api.ErrArg)
		}
	}
}
