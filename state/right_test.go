package state_test

import (
	"fmt"
	"math/rand/v2"
	"slices"
	"testing"

	"pharos/api"
	"pharos/state"
)

// P10.4

const far = 1<<64 - 1

// rightState has so many validators, and is far from all bounds.
func rightState(n int) api.State {
	x := zeroState(shape{2, 3, n, n, n, n, n})
	x.Slot, x.Deposits = 103, 5
	x.Header.Slot = 101
	x.OldJust.Epoch, x.Just.Epoch, x.Final.Epoch = 22, 23, 21
	for i := range n {
		x.Validators[i] = api.Validator{Effective: 31000000000, Eligible: 1, Activation: 2, Exit: far, Withdrawable: far}
		x.Balances[i], x.Scores[i] = 31500000000, 7
		x.Previous[i], x.Current[i] = 7, 255
	}
	x.Slashings[3] = 64000000000
	return x
}

func wantRight(t *testing.T, what string, x api.State, want bool) {
	t.Helper()
	if got := state.Right(x); got != want {
		t.Errorf("Right, %s: %v; want %v", what, got, want)
	}
	if byHand := rightByHand(x); byHand != want {
		t.Errorf("right by hand, %s: %v; want %v", what, byHand, want)
	}
}

// changed is a right state of five validators with a change.
func changed(change func(x *api.State)) api.State {
	x := rightState(5)
	change(&x)
	return x
}

func TestRightAtAll(t *testing.T) {
	for _, n := range []int{0, 1, 2, 5, 100} {
		wantRight(t, fmt.Sprint(n, " validators"), rightState(n), true)
	}
}

// TestRightLengths: of Balances, Previous, Current and Scores there are as many as validators, whichever list is the other one.
func TestRightLengths(t *testing.T) {
	for i := validators; i < listCount; i++ {
		for _, n := range []int{0, 1, 4, 5, 6, 7, 100} {
			x := zeroState(each(5).with(i, n))
			wantRight(t, fmt.Sprintf("%d of %s, five of the others", n, listName(i)), x, n == 5)
		}
		wantRight(t, "one of "+listName(i)+" alone", zeroState(each(0).with(i, 1)), false)
		for j := validators; j < i; j++ {
			wantRight(t, fmt.Sprintf("six of %s and of %s, five of the others", listName(j), listName(i)), zeroState(each(5).with(i, 6).with(j, 6)), false)
			wantRight(t, fmt.Sprintf("six of %s and four of %s, five of the others", listName(j), listName(i)), zeroState(each(5).with(i, 4).with(j, 6)), false)
		}
	}
	for i := range validators {
		for _, n := range []int{0, 1, 4, 5, 6, mostElements(i) - 1, mostElements(i)} {
			wantRight(t, fmt.Sprintf("%d of %s", n, listName(i)), zeroState(each(5).with(i, n)), true)
		}
		for _, n := range []int{mostElements(i) + 1, mostElements(i) + 2, 2 * mostElements(i)} {
			wantRight(t, fmt.Sprintf("%d of %s", n, listName(i)), zeroState(each(5).with(i, n)), false)
		}
	}
}

// TestRightMostValidators: as many as may be, and one more of all.
func TestRightMostValidators(t *testing.T) {
	wantRight(t, "all lists full", zeroState(full()), true)
	wantRight(t, "65536 validators", rightState(65536), true)
	wantRight(t, "65537 validators", rightState(65537), false)
	x := rightState(65536)
	x.Validators[65535].Effective++
	wantRight(t, "the last validator's Effective one too great", x, false)
	x = rightState(65536)
	x.Scores[65535] = 1<<40 + 1
	wantRight(t, "the last score too great", x, false)
	x = rightState(65536)
	x.Balances[65535] = 1 << 57
	wantRight(t, "the last balance too great", x, false)
}

func TestRightSlotAndDeposits(t *testing.T) {
	for n, want := range map[uint64]bool{
		0: false, 100: false, 101: true, 103: true, 1 << 32: true, 1<<40 - 2: true, 1<<40 - 1: true,
		1 << 40: false, 1<<40 + 1: false, 1 << 41: false, 1 << 63: false, far: false,
	} {
		x := changed(func(x *api.State) { x.Slot = n })
		wantRight(t, fmt.Sprint("Slot ", n), x, want)
	}
	for n, want := range map[uint64]bool{
		0: true, 1: true, 103: true, 104: true, 1 << 32: true, 1<<40 - 2: true, 1<<40 - 1: true,
		1 << 40: false, 1<<40 + 1: false, 1 << 41: false, 1 << 63: false, far: false,
	} {
		wantRight(t, fmt.Sprint("Deposits ", n), changed(func(x *api.State) { x.Deposits = n }), want)
		wantRight(t, fmt.Sprint("Deposits ", n, " of the zero state"), api.State{Deposits: n}, want)
	}
}

func TestRightHeaderSlot(t *testing.T) {
	for _, slot := range []uint64{0, 1, 3, 4, 103, 1<<40 - 1} {
		for _, n := range []uint64{0, slot / 2, slot, slot + 1, slot + 2, slot + 4, 1 << 63, far} {
			x := api.State{Slot: slot, Header: api.Header{Slot: n}}
			wantRight(t, fmt.Sprintf("Slot %d, Header.Slot %d", slot, n), x, n <= slot)
		}
	}
}

// TestRightCheckpoints: an epoch has four slots, so that the last slot of one is of it yet.
func TestRightCheckpoints(t *testing.T) {
	for name, epoch := range map[string]func(*api.State) *uint64{
		"OldJust": func(x *api.State) *uint64 { return &x.OldJust.Epoch },
		"Just":    func(x *api.State) *uint64 { return &x.Just.Epoch },
		"Final":   func(x *api.State) *uint64 { return &x.Final.Epoch },
	} {
		for _, c := range []struct{ slot, last uint64 }{
			{0, 0}, {1, 0}, {2, 0}, {3, 0}, {4, 1}, {5, 1}, {7, 1}, {8, 2}, {103, 25}, {104, 26}, {1<<40 - 1, 1<<38 - 1}, {1<<40 - 4, 1<<38 - 1}, {1<<40 - 5, 1<<38 - 2},
		} {
			for _, n := range []uint64{0, c.last, c.last + 1, c.last + 2, c.slot + 1, 1 << 62, 1 << 63, far} {
				x := api.State{Slot: c.slot}
				*epoch(&x) = n
				wantRight(t, fmt.Sprintf("Slot %d, the epoch of %s %d", c.slot, name, n), x, n <= c.last)
			}
		}
	}
	// They aren't held against each other.
	wantRight(t, "Final above Just", api.State{Slot: 8, Final: api.Checkpoint{Epoch: 2}}, true)
	wantRight(t, "OldJust above Just", api.State{Slot: 8, OldJust: api.Checkpoint{Epoch: 2}}, true)
}

func TestRightEffective(t *testing.T) {
	for _, at := range []int{0, 2, 4} {
		for _, n := range []uint64{0, 1, 2, 31, 32} {
			for more, want := range map[uint64]bool{0: true, 1: false, 2: false, 500000000: false, 999999999: false} {
				if n == 32 && more > 0 {
					want = false
				}
				x := changed(func(x *api.State) { x.Validators[at].Effective = n*1000000000 + more })
				wantRight(t, fmt.Sprintf("Effective %d and %d of the validator %d", n, more, at), x, want)
			}
		}
		for _, n := range []uint64{33000000000, 64000000000, 100000000000, 31999999999, 32000000001, 1 << 63, far, far - far%1000000000} {
			x := changed(func(x *api.State) { x.Validators[at].Effective = n })
			wantRight(t, fmt.Sprintf("Effective %d of the validator %d", n, at), x, false)
		}
	}
}

func TestRightEpochs(t *testing.T) {
	for name, epoch := range map[string]func(*api.Validator) *uint64{
		"Eligible":     func(v *api.Validator) *uint64 { return &v.Eligible },
		"Activation":   func(v *api.Validator) *uint64 { return &v.Activation },
		"Exit":         func(v *api.Validator) *uint64 { return &v.Exit },
		"Withdrawable": func(v *api.Validator) *uint64 { return &v.Withdrawable },
	} {
		for n, want := range map[uint64]bool{
			0: true, 1: true, 25: true, 26: true, 1 << 40: true, 1<<41 - 2: true, 1<<41 - 1: true,
			1 << 41: false, 1<<41 + 1: false, 1 << 42: false, 1 << 63: false, far - 1: false, far: true,
		} {
			for _, at := range []int{0, 2, 4} {
				x := changed(func(x *api.State) { *epoch(&x.Validators[at]) = n })
				wantRight(t, fmt.Sprintf("%s %d of the validator %d", name, n, at), x, want)
			}
		}
	}
	x := changed(func(x *api.State) {
		x.Validators[1] = api.Validator{Eligible: far, Activation: 9, Exit: 8, Withdrawable: 7}
	})
	wantRight(t, "epochs of a validator in no order", x, true)
}

func TestRightScores(t *testing.T) {
	for n, want := range map[uint64]bool{
		0: true, 1: true, 1<<40 - 1: true, 1 << 40: true, 1<<40 + 1: false, 1 << 41: false, 1 << 63: false, far: false,
	} {
		for _, at := range []int{0, 2, 4} {
			wantRight(t, fmt.Sprintf("the score %d at %d", n, at), changed(func(x *api.State) { x.Scores[at] = n }), want)
		}
	}
	x := changed(func(x *api.State) { copy(x.Scores, []uint64{1 << 40, 1 << 40, 1 << 40, 1 << 40, 1 << 40}) })
	wantRight(t, "all scores 2^40", x, true)
}

// sums are five numbers each, and whether they are at most 2^57 together.
func sums() []struct {
	numbers []uint64
	want    bool
} {
	return []struct {
		numbers []uint64
		want    bool
	}{
		{[]uint64{0, 0, 0, 0, 0}, true},
		{[]uint64{1, 2, 3, 4, 5}, true},
		{[]uint64{1<<57 - 1, 0, 0, 0, 0}, true},
		{[]uint64{1 << 57, 0, 0, 0, 0}, true},
		{[]uint64{0, 0, 0, 0, 1 << 57}, true},
		{[]uint64{1<<57 + 1, 0, 0, 0, 0}, false},
		{[]uint64{0, 0, 0, 0, 1<<57 + 1}, false},
		{[]uint64{1 << 57, 0, 0, 0, 1}, false},
		{[]uint64{1, 0, 0, 0, 1 << 57}, false},
		{[]uint64{1 << 56, 1 << 56, 0, 0, 0}, true},
		{[]uint64{1 << 56, 1 << 56, 0, 1, 0}, false},
		{[]uint64{1 << 55, 1 << 55, 1 << 55, 1<<55 - 1, 1}, true},
		{[]uint64{1 << 55, 1 << 55, 1 << 55, 1<<55 - 1, 2}, false},
		{[]uint64{1 << 55, 1 << 55, 1 << 55, 1 << 55, 1 << 55}, false},
		{[]uint64{far, 0, 0, 0, 0}, false},
		// Sums that would wrap.
		{[]uint64{far, 1, 0, 0, 0}, false},
		{[]uint64{1, far, 0, 0, 0}, false},
		{[]uint64{far, far, far, far, far}, false},
		{[]uint64{1 << 63, 1 << 63, 0, 0, 0}, false},
		{[]uint64{0, 1 << 63, 0, 1 << 63, 5}, false},
		{[]uint64{1 << 62, 1 << 62, 1 << 62, 1 << 62, 0}, false},
		{[]uint64{1 << 57, far - 1<<57 + 1, 0, 0, 0}, false},
		{[]uint64{1 << 56, far, 1, 0, 0}, false},
	}
}

func TestRightBalances(t *testing.T) {
	for _, c := range sums() {
		wantRight(t, fmt.Sprint("Balances ", c.numbers), changed(func(x *api.State) { copy(x.Balances, c.numbers) }), c.want)
	}
	x := rightState(65536)
	for i := range x.Balances {
		x.Balances[i] = 1 << 41
	}
	wantRight(t, "65536 balances of 2^41", x, true)
	x.Balances[40000]++
	wantRight(t, "65536 balances of 2^41 and one more", x, false)
	for i := range x.Balances {
		x.Balances[i] = 1 << 48
	}
	wantRight(t, "65536 balances of 2^48", x, false)
}

func TestRightSlashings(t *testing.T) {
	for _, c := range sums() {
		for at := range 4 {
			x := changed(func(x *api.State) {
				x.Slashings = [8]uint64{}
				copy(x.Slashings[at:], c.numbers)
			})
			wantRight(t, fmt.Sprintf("Slashings %v from %d on", c.numbers, at), x, c.want)
		}
	}
	x := api.State{Slashings: [8]uint64{1 << 54, 1 << 54, 1 << 54, 1 << 54, 1 << 54, 1 << 54, 1 << 54, 1 << 54}}
	wantRight(t, "eight slashings of 2^54", x, true)
	x.Slashings[7]++
	wantRight(t, "eight slashings of 2^54 and one more", x, false)
	x.Slashings = [8]uint64{1 << 61, 1 << 61, 1 << 61, 1 << 61, 1 << 61, 1 << 61, 1 << 61, 1 << 61}
	wantRight(t, "eight slashings of 2^61", x, false)
	// Each has its own bound.
	x = changed(func(x *api.State) {
		x.Slashings = [8]uint64{1 << 57}
		copy(x.Balances, []uint64{1 << 57, 0, 0, 0, 0})
	})
	wantRight(t, "Balances and Slashings 2^57 each", x, true)
}

// TestRightAsksNothingElse: the other fields may be what they like.
func TestRightAsksNothingElse(t *testing.T) {
	for _, v := range []byte{0, 1, 255} {
		x := value(all(v), each(3))
		x.Slot, x.Deposits, x.Header.Slot = 103, 5, 103
		x.OldJust.Epoch, x.Just.Epoch, x.Final.Epoch = 25, 25, 25
		for i := range x.Validators {
			w := &x.Validators[i]
			w.Effective, w.Eligible, w.Activation, w.Exit, w.Withdrawable = 0, 0, 0, 0, 0
		}
		clear(x.Balances)
		clear(x.Scores)
		x.Slashings = [8]uint64{}
		wantRight(t, fmt.Sprintf("the other fields' bytes %d", v), x, true)
	}
}

func TestRightLeavesAll(t *testing.T) {
	for _, x := range []api.State{value(rising, each(3)), changed(func(x *api.State) {}), changed(func(x *api.State) { x.Scores[4] = far })} {
		before := whole(&x)
		one, two := state.Right(x), state.Right(x)
		if whole(&x) != before || one != two {
			t.Errorf("Right: asked again, another answer or another state")
		}
	}
}

// TestRightByChance: changes of one or two numbers to such around the bounds, against the second reading.
func TestRightByChance(t *testing.T) {
	r := rand.New(rand.NewPCG(10, 3))
	bounds := []uint64{0, 25, 26, 103, 1000000000, 32000000000, 33000000000, 1 << 38, 1 << 40, 1 << 41, 1 << 55, 1 << 56, 1 << 57, 1 << 63, far}
	seen := map[bool]int{}
	for range 20000 {
		x := rightState(r.IntN(4))
		all := slices.DeleteFunc(leaves(&x), func(l leaf) bool { return !l.isNumber() })
		for range 1 + r.IntN(3) {
			all[r.IntN(len(all))].v.SetUint(bounds[r.IntN(len(bounds))] + uint64(r.IntN(3)) - 1)
		}
		want := rightByHand(x)
		seen[want]++
		if got := state.Right(x); got != want {
			t.Errorf("Right of %v: %v; want %v", x, got, want)
		}
	}
	if seen[true] < 1000 || seen[false] < 1000 {
		t.Errorf("chance made %v", seen)
	}
}
