package slash_test

import (
	"fmt"
	"slices"
	"testing"

	"pharos/api"
	"pharos/slash"
	"pharos/state"
)

// someSlots of all remainders, in the first epochs, in those whose slashings come round again, around the fork, and the greatest one.
func someSlots() []uint64 {
	return []uint64{0, 1, 2, 3, 4, 5, 7, 8, 27, 28, 31, 32, 33, 35, 36, 39, 40, 41, 60, 63, 64, 100, 101, 102, 103, 1 << 32, 1<<32 + 5, lastSlot - 4, lastSlot - 3, lastSlot - 1, lastSlot}
}

// notRight: states that aren't right, each by a small change of this one, which has a validator at least.
func notRight(t *testing.T, x api.State) map[string]api.State {
	t.Helper()
	changes := map[string]func(y *api.State){
		"a balance more":             func(y *api.State) { y.Balances = append(slices.Clone(y.Balances), 1) },
		"a flag less":                func(y *api.State) { y.Previous = y.Previous[1:] },
		"no flags":                   func(y *api.State) { y.Current = nil },
		"a score less":               func(y *api.State) { y.Scores = y.Scores[1:] },
		"validators alone":           func(y *api.State) { y.Balances, y.Previous, y.Current, y.Scores = nil, nil, nil, nil },
		"a validator less":           func(y *api.State) { y.Validators = y.Validators[1:] },
		"nine votes":                 func(y *api.State) { y.Votes = eth1sOf(9) },
		"too long a history":         func(y *api.State) { y.History = make([]api.Root, 1025) },
		"too late a slot":            func(y *api.State) { y.Slot = 1 << 40 },
		"the greatest slot":          func(y *api.State) { y.Slot = top },
		"a header of later":          func(y *api.State) { y.Header.Slot = y.Slot + 1 },
		"too many deposits":          func(y *api.State) { y.Deposits = 1 << 40 },
		"a checkpoint of later":      func(y *api.State) { y.OldJust.Epoch = y.Slot/4 + 1 },
		"justified later":            func(y *api.State) { y.Just.Epoch = y.Slot/4 + 1 },
		"final later":                func(y *api.State) { y.Final.Epoch = top },
		"a crooked balance":          ofFirst(func(v *api.Validator) { v.Effective-- }),
		"too great a balance":        ofFirst(func(v *api.Validator) { v.Effective = 33 * gwei }),
		"too late an eligibility":    ofFirst(func(v *api.Validator) { v.Eligible = lastEpoch + 1 }),
		"too late an activation":     ofFirst(func(v *api.Validator) { v.Activation = lastEpoch + 1 }),
		"too late an exit":           ofFirst(func(v *api.Validator) { v.Exit = top - 1 }),
		"too late a withdrawal":      ofFirst(func(v *api.Validator) { v.Withdrawable = lastEpoch + 1 }),
		"too great a score":          func(y *api.State) { y.Scores = slices.Repeat([]uint64{1<<40 + 1}, len(y.Scores)) },
		"too much together":          func(y *api.State) { y.Balances = slices.Repeat([]uint64{most + 1}, len(y.Balances)) },
		"balances that wrap":         func(y *api.State) { y.Balances = slices.Repeat([]uint64{1 << 63}, len(y.Balances)) },
		"slashings above all":        func(y *api.State) { y.Slashings[7] = most + 1 },
		"slashings that wrap":        func(y *api.State) { y.Slashings[0], y.Slashings[7] = 1<<63, 1<<63 },
		"too many validators":        tooMany,
		"nobody, but one balance":    func(y *api.State) { *y = withValidators(y.Slot); y.Balances = []uint64{1} },
		"a late slot and no actives": func(y *api.State) { *y = withValidators(1 << 40) },
	}
	all := map[string]api.State{}
	for what, change := range changes {
		y := x
		change(&y)
		if state.Right(y) {
			t.Fatalf("the test's own state is right: %s", what)
		}
		all[what] = y
	}
	return all
}

// ofFirst changes the first validator, in a list of its own.
func ofFirst(change func(v *api.Validator)) func(y *api.State) {
	return func(y *api.State) {
		y.Validators = slices.Clone(y.Validators)
		change(&y.Validators[0])
	}
}

func tooMany(y *api.State) {
	n := 1<<16 + 1
	y.Validators = slices.Repeat(y.Validators[:1], n)
	y.Balances, y.Previous, y.Current, y.Scores = make([]uint64, n), make([]uint8, n), make([]uint8, n), make([]uint64, n)
}

// oneOfZeros: the zero state with one validator of 32 Increments.
func oneOfZeros() api.State {
	return api.State{Validators: []api.Validator{member(full, 0, far)}, Balances: []uint64{32 * gwei}, Previous: []uint8{0}, Current: []uint8{0}, Scores: []uint64{0}}
}

// The chapter's examples.

func TestExamples(t *testing.T) {
	x := oneOfZeros()
	y := wantSlash(t, "one in epoch 0", x, 0)
	v := y.Validators[0]
	if v.Exit != 3 || v.Withdrawable != 8 || !v.Slashed || y.Balances[0] != 32*gwei-half+sixteenth || y.Slashings != [8]uint64{32 * gwei} {
		t.Errorf("one in epoch 0: %v, balance %d, slashings %d", v, y.Balances[0], y.Slashings)
	}
	s := headersOf(2, 0)
	s.Two.Header = s.One.Header
	wantNoProposer(t, "two that are the same", x, s, nil, api.BadSame)
	wantProposer(t, "two that clash", x, headersOf(2, 0), nil)
}

// P18.1: Leave

func TestLeaveOfSlotsAndNumbers(t *testing.T) {
	for _, n := range []int{1, 2, 3, 16, 40, 300} {
		for _, slot := range someSlots() {
			x := withValidators(slot, members(n, full)...)
			for _, i := range []int{0, n / 2, n - 1} {
				y := wantLeave(t, fmt.Sprintf("slot %d, %d of %d", slot, i, n), x, uint64(i))
				if v := y.Validators[i]; v.Exit != slot/4+3 || v.Withdrawable != slot/4+5 || v.Slashed {
					t.Errorf("slot %d: Exit %d, Withdrawable %d, slashed %v", slot, v.Exit, v.Withdrawable, v.Slashed)
				}
			}
		}
	}
}

// TestLeaveOneBehindTheOther: two an epoch, as long as there are fewer than 96; then a 32nd of all.
func TestLeaveOneBehindTheOther(t *testing.T) {
	for n, churn := range map[int]int{1: 2, 2: 2, 3: 2, 5: 2, 31: 2, 32: 2, 63: 2, 64: 2, 65: 2, 95: 2, 96: 3, 97: 3, 127: 3, 128: 4, 159: 4, 160: 5} {
		x := withValidators(103, members(n, full)...)
		for k := range min(n, 3*churn+1) {
			i := uint64(k*7) % uint64(n)
			for x.Validators[i].Exit != far {
				i = (i + 1) % uint64(n)
			}
			what := fmt.Sprintf("%d of %d behind %d others", i, n, k)
			x = wantLeave(t, what, x, i)
			if want := uint64(28 + k/churn); x.Validators[i].Exit != want || x.Validators[i].Withdrawable != want+2 {
				t.Fatalf("%s: %v; want the Exit %d", what, x.Validators[i], want)
			}
		}
	}
}

// TestLeaveExits: which exit comes next, behind those that there are.
func TestLeaveExits(t *testing.T) {
	for _, c := range []struct {
		exits []uint64
		want  uint64
	}{
		{nil, 28},
		{[]uint64{far, far, far}, 28},
		{[]uint64{0, 1, 2, 2, 2, 25, 25, 25}, 28}, // those who have left
		{[]uint64{26, 26, 26, 27, 27, 27}, 28},    // more than the churn, but sooner
		{[]uint64{27, 28}, 28},
		{[]uint64{28, 28}, 29},
		{[]uint64{28, far, 28}, 29},
		{[]uint64{28, 28, 28}, 29},
		{[]uint64{28, 28, 28, 28, 28}, 29}, // one more, not two
		{[]uint64{28, 28, 29}, 29},
		{[]uint64{28, 28, 29, 29}, 30},
		{[]uint64{29, 28, 29, 28}, 30},
		{[]uint64{29}, 29},
		{[]uint64{29, 28, 28, 28}, 29},
		{[]uint64{1000, 28, 28}, 1000}, // far behind the others
		{[]uint64{28, 28, 1000, 1000}, 1001},
		{[]uint64{28, 1000, 28, 1000, 1000}, 1001},
		{[]uint64{1000, 999, 999, 999}, 1000},
		{[]uint64{1 << 32, 28}, 1 << 32},
		{[]uint64{lastEpoch - 3, lastEpoch - 3}, lastEpoch - 2},
		{[]uint64{lastEpoch - 2}, lastEpoch - 2},
	} {
		for place := range len(c.exits) + 1 {
			x := withValidators(103, slices.Insert(leavers(c.exits...), place, member(full, 0, far))...)
			for i := range x.Validators { // so that the bound of rightness isn't met by them
				x.Validators[i].Withdrawable = far
			}
			what := fmt.Sprintf("behind %d, at %d", c.exits, place)
			y := wantLeave(t, what, x, uint64(place))
			if v := y.Validators[place]; v.Exit != c.want || v.Withdrawable != c.want+2 {
				t.Errorf("Leave, %s: %v; want the Exit %d", what, v, c.want)
			}
		}
	}
}

// TestLeaveChurnIsOfTheActives of the state's epoch: others don't make it greater.
func TestLeaveChurnIsOfTheActives(t *testing.T) {
	for _, c := range []struct {
		actives, gone, coming int
		same                  int // of the actives, who leave at 28 already
		want                  uint64
	}{
		{95, 500, 500, 2, 29}, {96, 0, 0, 2, 28}, {96, 0, 0, 3, 29}, {95, 0, 500, 1, 28}, {127, 99, 99, 3, 29}, {128, 99, 99, 3, 28}, {128, 0, 0, 4, 29}, {319, 0, 1, 9, 29}, {320, 0, 0, 9, 28}, {320, 0, 0, 10, 29},
	} {
		validators := slices.Concat(members(c.actives-c.same-1, full), leavers(slices.Repeat([]uint64{28}, c.same)...))
		validators = append(validators, slices.Repeat([]api.Validator{member(full, 0, 25)}, c.gone)...)
		validators = append(validators, slices.Repeat([]api.Validator{member(full, 26, far)}, c.coming)...)
		validators = append(validators, member(full, 0, far))
		i := uint64(len(validators) - 1)
		x := withValidators(100, validators...)
		y := wantLeave(t, fmt.Sprint(c), x, i)
		if y.Validators[i].Exit != c.want {
			t.Errorf("Leave, %v: Exit %d; want %d", c, y.Validators[i].Exit, c.want)
		}
	}
}

// TestLeaveAgain: whose Exit isn't Far stays as it is, all of it.
func TestLeaveAgain(t *testing.T) {
	for _, exit := range []uint64{0, 1, 25, 26, 28, 29, 1000, lastEpoch - 1, lastEpoch} {
		for _, withdrawable := range []uint64{0, 25, 28, 30, lastEpoch, far} {
			v := member(full, 0, exit)
			v.Withdrawable = withdrawable
			x := withValidators(103, append(leavers(28, 28, far), v)...)
			y := wantLeave(t, fmt.Sprintf("Exit %d, Withdrawable %d", exit, withdrawable), x, 3)
			if !sameState(t, x, y) {
				t.Errorf("one whose Exit is %d changed", exit)
			}
		}
	}
	x := withValidators(103, members(5, full)...)
	one := wantLeave(t, "for the first time", x, 2)
	two := wantLeave(t, "again", one, 2)
	if !sameState(t, one, two) {
		t.Error("who leaves again isn't as it was")
	}
}

// TestLeaveOfAllKinds: one that isn't active yet, that never will be, or that is slashed, leaves as others do. Its Withdrawable counts nothing.
func TestLeaveOfAllKinds(t *testing.T) {
	for _, activation := range []uint64{0, 25, 26, 100, far} {
		for _, withdrawable := range []uint64{0, 7, 30, 1000, lastEpoch, far} {
			for _, slashed := range []bool{false, true} {
				v := member(7, activation, far)
				v.Withdrawable, v.Slashed = withdrawable, slashed
				x := withValidators(103, append(members(3, full), v)...)
				y := wantLeave(t, fmt.Sprint(v), x, 3)
				if got := y.Validators[3]; got.Exit != 28 || got.Withdrawable != 30 || got.Slashed != slashed {
					t.Errorf("Leave of %v: %v", v, got)
				}
			}
		}
	}
	wantLeave(t, "nobody is active", withValidators(103, member(full, far, far)), 0)
	wantLeave(t, "one without balance", withValidators(103, member(0, 0, far)), 0)
}

// TestLeaveAtTheBound: what wouldn't be right is refused.
func TestLeaveAtTheBound(t *testing.T) {
	for _, c := range []struct {
		exits []uint64
		want  api.Errno
	}{
		{[]uint64{lastEpoch}, api.ErrOver},                           // Exit may be, Withdrawable not
		{[]uint64{lastEpoch, lastEpoch}, api.ErrOver},                // neither
		{[]uint64{lastEpoch - 1}, api.ErrOver},                       // Withdrawable is one too great
		{[]uint64{lastEpoch - 1, lastEpoch - 1}, api.ErrOver},        //
		{[]uint64{lastEpoch - 2}, api.OK},                            // both are just right
		{[]uint64{lastEpoch - 2, lastEpoch - 2}, api.ErrOver},        // by the churn
		{[]uint64{lastEpoch - 3, lastEpoch - 3, 28, far}, api.OK},    //
		{[]uint64{lastEpoch - 2, lastEpoch, lastEpoch}, api.ErrOver}, //
	} {
		validators := append(leavers(c.exits...), member(full, 0, far))
		for i := range validators {
			validators[i].Withdrawable = far
		}
		x := withValidators(103, validators...)
		i := uint64(len(c.exits))
		wantLeave(t, fmt.Sprint("behind ", c.exits), x, i)
		if c.want != api.OK {
			wantNoLeave(t, fmt.Sprint("behind ", c.exits), x, i, c.want)
		}
		x.Validators[i].Exit = lastEpoch
		wantLeave(t, "one who leaves already, at the bound", x, i)
	}
}

// none: indices at which there are no validators.
func none(n int) []uint64 {
	return []uint64{uint64(n), uint64(n) + 1, 1 << 16, 1<<32 | uint64(n-1), 1<<63 | uint64(n-1), top, far - 1}
}

func TestLeaveAndSlashOfNone(t *testing.T) {
	for _, n := range []int{1, 2, 16, 300} {
		x := withValidators(103, members(n, full)...)
		for _, i := range none(n) {
			wantNoLeave(t, fmt.Sprintf("%d of %d", i, n), x, i, api.ErrArg)
			wantNoSlash(t, fmt.Sprintf("%d of %d", i, n), x, i, api.ErrArg)
		}
	}
	for _, i := range []uint64{0, 1, top} {
		for _, x := range []api.State{{}, withValidators(103)} {
			wantNoLeave(t, "nobody is there", x, i, api.ErrArg)
			wantNoSlash(t, "nobody is there, so nobody proposes", x, i, api.ErrArg)
		}
	}
	gone := withValidators(103, member(full, 0, 1))
	wantNoSlash(t, "no actives, and no such one", gone, 1, api.ErrArg)
}

func TestLeaveAndSlashOfStatesThatArentRight(t *testing.T) {
	for what, x := range notRight(t, withValidators(103, members(16, full)...)) {
		for _, i := range append(none(16), 0, 3, 15) {
			wantNoLeave(t, what, x, i, api.ErrArg)
			wantNoSlash(t, what, x, i, api.ErrArg)
		}
	}
	over := withValidators(103, leavers(lastEpoch, lastEpoch, far)...)
	if state.Right(over) {
		t.Fatal("the test's own state is right")
	}
	wantNoLeave(t, "behind which it wouldn't be right either", over, 2, api.ErrArg)
	wantNoSlash(t, "behind which it wouldn't be right either", over, 2, api.ErrArg)
}

// P18.1: Slash

func TestSlashOfSlotsAndNumbers(t *testing.T) {
	for _, n := range []int{1, 2, 3, 16, 40, 300} {
		for _, slot := range someSlots() {
			x := withValidators(slot, members(n, full)...)
			proposer, _ := plainProposer(x)
			for _, i := range []int{0, n / 2, n - 1, int(proposer)} {
				what := fmt.Sprintf("slot %d, %d of %d, proposer %d", slot, i, n, proposer)
				y := wantSlash(t, what, x, uint64(i))
				want := clone(x)
				want.Balances[i] -= half
				want.Balances[proposer] += sixteenth
				if v := y.Validators[i]; v.Exit != slot/4+3 || v.Withdrawable != slot/4+8 || !v.Slashed {
					t.Errorf("%s: %v", what, v)
				}
				if !slices.Equal(y.Balances, want.Balances) {
					t.Errorf("%s: balances %d; want %d", what, y.Balances, want.Balances)
				}
			}
		}
	}
}

// TestSlashEffectives: all that there may be. As an Increment is a multiple of 512, nothing is left over of any.
func TestSlashEffectives(t *testing.T) {
	for increments := range uint64(33) {
		x := withValidators(103, append(members(5, full), member(increments, 0, far))...)
		proposer, _ := plainProposer(x)
		if proposer == 5 {
			proposer = 0
			x.Mixes[7] = rootOf("another mix", 2)
			if proposer, _ = plainProposer(x); proposer == 5 {
				t.Fatal("the test's own proposer is the one who is slashed")
			}
		}
		y := wantSlash(t, fmt.Sprint("Increments: ", increments), x, 5)
		taken, given := increments*15625000, increments*1953125
		if y.Balances[5] != x.Balances[5]-taken || y.Balances[proposer] != x.Balances[proposer]+given || y.Slashings[1] != x.Slashings[1]+increments*gwei {
			t.Errorf("Increments %d: balances %d, slashings %d; taken should be %d, given %d", increments, y.Balances, y.Slashings, taken, given)
		}
	}
}

// TestSlashBalances: those that are smaller than what is taken become 0; the proposer's own is taken ahead of what it is given.
func TestSlashBalances(t *testing.T) {
	x := withValidators(103, members(5, full)...)
	proposer, _ := plainProposer(x)
	other := (proposer + 1) % 5
	for balance, left := range map[uint64]uint64{0: 0, 1: 0, half - 1: 0, half: 0, half + 1: 1, half + 5: 5, sixteenth: 0, gwei: half, 32 * gwei: 32*gwei - half, 1 << 50: 1<<50 - half} {
		for _, i := range []uint64{proposer, other} {
			z := clone(x)
			z.Balances[i] = balance
			y := wantSlash(t, fmt.Sprintf("%d with %d", i, balance), z, i)
			want := left
			if i == proposer {
				want += sixteenth
			} else if y.Balances[proposer] != z.Balances[proposer]+sixteenth {
				t.Errorf("%d with %d: the proposer has %d", i, balance, y.Balances[proposer])
			}
			if y.Balances[i] != want {
				t.Errorf("%d with %d: behind it %d; want %d", i, balance, y.Balances[i], want)
			}
		}
	}
}

// TestSlashPlaces: those of the first and of the last slashings, and those that come again.
func TestSlashPlaces(t *testing.T) {
	for epoch, place := range map[uint64]int{0: 0, 1: 1, 6: 6, 7: 7, 8: 0, 9: 1, 15: 7, 16: 0, 17: 1, 25: 1, 1 << 30: 0, 1<<30 + 7: 7, 1<<38 - 8: 0, 1<<38 - 2: 6, 1<<38 - 1: 7} {
		for k := range uint64(4) {
			x := withValidators(4*epoch+k, members(16, 20)...)
			y := wantSlash(t, fmt.Sprint("slot ", x.Slot), x, 3)
			want := x.Slashings
			want[place] += 20 * gwei
			if y.Slashings != want {
				t.Errorf("slot %d: slashings %d; want %d", x.Slot, y.Slashings, want)
			}
			z := wantSlash(t, fmt.Sprint("another one, slot ", x.Slot), y, 4)
			want[place] += 20 * gwei
			if z.Slashings != want {
				t.Errorf("slot %d, a second one: slashings %d; want %d", x.Slot, z.Slashings, want)
			}
		}
	}
}

// TestSlashWithdrawable: the greater one of its own and the epoch and eight.
func TestSlashWithdrawable(t *testing.T) {
	for _, c := range []struct{ exit, withdrawable, wantExit, want uint64 }{
		{far, far, 28, 33}, {far, 0, 28, 33}, {far, 1000, 28, 33}, // who is let leave gets another one
		{28, 30, 28, 33}, {29, 31, 29, 33}, {30, 32, 30, 33}, {31, 33, 31, 33}, {32, 34, 32, 34}, {33, 35, 33, 35},
		{1000, 1002, 1000, 1002}, {lastEpoch, lastEpoch, lastEpoch, lastEpoch}, {28, far, 28, far}, {0, far, 0, far},
		{0, 0, 0, 33}, {3, 5, 3, 33}, {25, 27, 25, 33}, {26, 26, 26, 33}, {26, 32, 26, 33}, {26, 33, 26, 33}, {26, 34, 26, 34},
	} {
		v := member(full, 0, c.exit)
		v.Withdrawable = c.withdrawable
		x := withValidators(103, append(members(5, full), v)...)
		y := wantSlash(t, fmt.Sprint(c), x, 5)
		if got := y.Validators[5]; got.Exit != c.wantExit || got.Withdrawable != c.want || !got.Slashed {
			t.Errorf("Slash, %v: %v", c, got)
		}
	}
	for exit, want := range map[uint64]uint64{28: 33, 30: 33, 31: 33, 32: 34, 40: 42, 1 << 30: 1<<30 + 2} { // by those ahead of it
		x := withValidators(103, leavers(exit, far)...)
		y := wantSlash(t, fmt.Sprint("behind an Exit ", exit), x, 1)
		if got := y.Validators[1]; got.Exit != exit || got.Withdrawable != want {
			t.Errorf("Slash behind an Exit %d: %v; want the Withdrawable %d", exit, got, want)
		}
	}
}

// TestSlashOneBehindTheOther: they leave as others do, and one that was slashed already is slashed once more, but doesn't leave anew.
func TestSlashOneBehindTheOther(t *testing.T) {
	x := withValidators(103, members(7, full)...)
	for k, i := range []uint64{3, 0, 6, 1, 5} {
		x = wantSlash(t, fmt.Sprint("one more, ", i), x, i)
		if v, exit := x.Validators[i], uint64(28+k/2); v.Exit != exit || v.Withdrawable != 33 {
			t.Errorf("%d behind %d others: %v; want the Exit %d", i, k, v, exit)
		}
	}
	if want := []uint64{28, 29, far, 28, far, 30, 29}; !slices.Equal(exitsOf(x), want) {
		t.Errorf("exits %d; want %d", exitsOf(x), want)
	}
	y := wantSlash(t, "the same again", x, 3)
	if y.Validators[3] != x.Validators[3] || y.Slashings[1] != x.Slashings[1]+32*gwei {
		t.Errorf("slashed again: %v, slashings %d", y.Validators[3], y.Slashings)
	}
	z := wantLeave(t, "one who is slashed", y, 3)
	if !sameState(t, y, z) {
		t.Error("who is slashed has left already")
	}
}

// TestSlashOfAllKinds: it isn't asked here whether one can be slashed.
func TestSlashOfAllKinds(t *testing.T) {
	for _, activation := range []uint64{0, 25, 26, far} {
		for _, exit := range []uint64{0, 25, 26, 28, far} {
			for _, withdrawable := range []uint64{0, 25, 26, far} {
				for _, slashed := range []bool{false, true} {
					v := member(full, activation, exit)
					v.Withdrawable, v.Slashed = withdrawable, slashed
					y := wantSlash(t, fmt.Sprint(v), withValidators(103, append(members(3, full), v)...), 3)
					if !y.Validators[3].Slashed {
						t.Errorf("%v isn't slashed", v)
					}
				}
			}
		}
	}
}

// withoutActives: states with validators, but nobody who is active, or lucky enough, at slot 103.
func withoutActives(t *testing.T) []api.State {
	t.Helper()
	all := []api.State{
		withValidators(103, member(full, 26, far), member(full, 0, far)), withValidators(103, member(full, 0, 25), member(full, 0, far)),
		withValidators(103, member(full, far, far), member(full, 0, 1), member(full, 25, 25)),
		withValidators(103, members(3, 0)...),
	}
	all[0].Validators[1].Exit, all[1].Validators[1].Exit = 25, 0
	for i := 0; ; i++ {
		if _, ok := plainProposer(all[3]); !ok {
			break
		}
		all[3].Mixes[7] = rootOf("a mix without luck", i)
	}
	for i, x := range all {
		mustRight(t, x)
		if _, ok := plainProposer(x); ok {
			t.Fatalf("the test's own state %d has a proposer", i)
		}
	}
	return all
}

func TestSlashWithoutActives(t *testing.T) {
	for k, x := range withoutActives(t) {
		for i := range x.Validators {
			wantNoSlash(t, fmt.Sprintf("state %d, %d", k, i), x, uint64(i), api.ErrNone)
			y := wantLeave(t, fmt.Sprintf("state %d, %d", k, i), x, uint64(i)) // which needs no proposer
			if y.Validators[i].Exit == far {
				t.Errorf("state %d: %d doesn't leave", k, i)
			}
		}
		x.Slashings[0] = most - 28*gwei // so that it wouldn't be right behind it
		mustRight(t, x)
		wantNoSlash(t, "no actives, and slashings that are too great behind it", x, 0, api.ErrNone)
	}
}

// TestSlashAtTheBound: each of the sums, just right and one above.
func TestSlashAtTheBound(t *testing.T) {
	x := withValidators(103, members(5, full)...)
	x.Slashings = [8]uint64{}
	proposer, _ := plainProposer(x)
	i, rich := (proposer+1)%5, (proposer+2)%5
	for _, c := range []struct {
		what  string
		of    func(y *api.State)
		wants api.Errno
	}{
		{"slashings just right", func(y *api.State) { y.Slashings[1] = most - 32*gwei }, api.OK},
		{"slashings one above", func(y *api.State) { y.Slashings[1] = most - 32*gwei + 1 }, api.ErrOver},
		{"slashings together just right", func(y *api.State) { y.Slashings[7], y.Slashings[1] = most-33*gwei, gwei }, api.OK},
		{"slashings together one above", func(y *api.State) { y.Slashings[7], y.Slashings[1] = most-33*gwei, gwei+1 }, api.ErrOver},
		{"slashings of another place", func(y *api.State) { y.Slashings[2] = most }, api.ErrOver},
		{"balances that go down", func(y *api.State) { y.Balances = slices.Repeat([]uint64{0}, 5); y.Balances[i] = most }, api.OK},
		{"balances just right", func(y *api.State) {
			y.Balances = slices.Repeat([]uint64{0}, 5)
			y.Balances[rich] = most - sixteenth
		}, api.OK},
		{"balances one above", func(y *api.State) {
			y.Balances = slices.Repeat([]uint64{0}, 5)
			y.Balances[rich] = most - sixteenth + 1
		}, api.ErrOver},
		{"as much taken as given", func(y *api.State) {
			y.Balances = slices.Repeat([]uint64{0}, 5)
			y.Balances[i], y.Balances[rich] = sixteenth, most-sixteenth
		}, api.OK},
		{"one less taken than given", func(y *api.State) {
			y.Balances = slices.Repeat([]uint64{0}, 5)
			y.Balances[i], y.Balances[rich] = sixteenth-1, most-sixteenth+1
		}, api.ErrOver},
		{"an exit just right", func(y *api.State) { y.Validators[rich].Exit = lastEpoch - 2 }, api.OK},
		{"an exit one above", func(y *api.State) { y.Validators[rich].Exit = lastEpoch - 1 }, api.ErrOver},
		{"an exit at the end", func(y *api.State) { y.Validators[rich].Exit = lastEpoch }, api.ErrOver},
		{"an exit at the end, while its own is told", func(y *api.State) { y.Validators[rich].Exit, y.Validators[i].Exit = lastEpoch, 28 }, api.OK},
	} {
		y := clone(x)
		c.of(&y)
		z := wantSlash(t, c.what, y, i)
		if c.wants == api.OK && !z.Validators[min(i, uint64(len(z.Validators)))].Slashed {
			t.Errorf("%s: not slashed", c.what)
		}
		if c.wants != api.OK {
			wantNoSlash(t, c.what, y, i, c.wants)
		}
	}
}

// TestFullRegistry: all validators that there may be.
func TestFullRegistry(t *testing.T) {
	x := withValidators(103, members(1<<16, full)...)
	last := uint64(1<<16 - 1)
	y := wantLeave(t, "the last of all", x, last)
	wantNoLeave(t, "one behind all", x, last+1, api.ErrArg)
	for i := range 2047 { // the churn is 2048
		y.Validators[i].Exit = 28
	}
	z := wantSlash(t, "the churn is reached", y, 40000)
	if z.Validators[40000].Exit != 29 {
		t.Errorf("the churn is reached: Exit %d", z.Validators[40000].Exit)
	}
	y.Validators[0].Exit = 27
	if z = wantSlash(t, "the churn isn't reached", y, 40000); z.Validators[40000].Exit != 28 {
		t.Errorf("the churn isn't reached: Exit %d", z.Validators[40000].Exit)
	}
	s := doubleOf(upTo(last-63, 64), upTo(last-63, 64))
	wantAttester(t, "64 of all", x, s, nil, upTo(last-63, 64)...)
	wantProposer(t, "the last of all", x, headersOf(103, last), nil)
	wantNoProposer(t, "one behind all", x, headersOf(103, last+1), nil, api.BadWho)
	if _, err := slash.Slash(x, last+1); err != api.ErrArg {
		t.Errorf("one behind all: error %d", err)
	}
}
