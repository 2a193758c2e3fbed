package just_test

import (
	"fmt"
	"testing"

	"pharos/api"
	"pharos/just"
)

// P22.2

// TestWeighSteps by hand: (a), (b) and (c) in epoch 25, where nothing becomes final.
func TestWeighSteps(t *testing.T) {
	old := api.Checkpoint{Epoch: 3, Root: rootOf("justified", 1)}
	before, now := api.Checkpoint{Epoch: 24, Root: rootOf("block", 0)}, api.Checkpoint{Epoch: 25, Root: rootOf("block", 4)}
	for _, c := range []struct {
		previous, current uint64
		bits, behind      string
		just              api.Checkpoint
	}{
		{0, 0, "....", "....", old}, {0, 0, "xxxx", ".xxx", old}, {0, 0, "x.x.", ".x.x", old}, {0, 0, "...x", "....", old},
		{20, 0, "....", ".x..", before}, {20, 0, "xxxx", ".xxx", before}, {20, 0, ".x.x", ".xx.", before}, {30, 19, "...x", ".x..", before},
		{0, 20, "....", "x...", now}, {0, 20, "xxxx", "xxxx", now}, {0, 20, ".x.x", "x.x.", now}, {19, 30, "..xx", "x..x", now},
		{20, 20, "....", "xx..", now}, {20, 20, "xxxx", "xxxx", now}, {20, 20, ".x.x", "xxx.", now}, {30, 30, "..xx", "xx.x", now},
	} {
		what := fmt.Sprintf("%d and %d of 30, bits %s", c.previous, c.current, c.bits)
		x := stateOf(weighing{slot: 103, bits: c.bits, first: 2, second: 3, final: 1})
		y := wantWeigh(t, what, x, 30, c.previous, c.current)
		if y.Bits != bitsOf(c.behind) || y.OldJust != old || y.Just != c.just || y.Final != x.Final {
			t.Errorf("%s: bits %v, OldJust %v, Just %v, Final %v", what, y.Bits, y.OldJust, y.Just, y.Final)
		}
	}
}

// TestWeighRows by hand, each by itself: by the bits behind the step, and by the epochs of both checkpoints.
func TestWeighRows(t *testing.T) {
	for _, c := range []struct {
		bits              string
		previous, current uint64
		first, second     uint64
		want              byte // f or s, or - where Final stays
	}{
		{".xx.", 3, 0, 22, 5, 'f'}, {".xx.", 3, 0, 21, 5, '-'}, {".xx.", 3, 0, 24, 5, '-'}, {".xxx", 3, 0, 22, 22, 'f'}, // the first row: 2, 3, 4
		{"xxx.", 0, 0, 22, 5, 'f'}, {"xxx.", 0, 3, 22, 5, 'f'}, {"xxxx", 3, 3, 22, 5, 'f'}, {".xx.", 0, 0, 22, 5, '-'}, {"x.x.", 3, 3, 22, 5, '-'}, {"xx..", 3, 3, 22, 5, '-'},
		{"x...", 0, 0, 23, 5, '-'}, {".x..", 3, 0, 23, 5, 'f'}, {".x..", 3, 0, 22, 5, '-'}, {".x..", 3, 0, 24, 5, '-'}, // the second one: 2, 3
		{"xx..", 0, 0, 23, 5, 'f'}, {"xx.x", 0, 3, 23, 5, 'f'}, {"x.xx", 3, 0, 23, 5, '-'}, {".xxx", 0, 3, 23, 5, '-'}, {"xxxx", 3, 3, 23, 5, 'f'},
		{".x..", 3, 3, 5, 23, 's'}, {"xx..", 0, 3, 5, 23, 's'}, {"xxxx", 3, 3, 5, 23, 's'}, {".x..", 3, 3, 5, 22, '-'}, {"xx..", 3, 0, 5, 23, '-'}, // the third one: 1, 2, 3
		{"x.xx", 3, 3, 5, 23, '-'}, {".xxx", 0, 3, 5, 23, '-'}, {"xx..", 0, 0, 5, 23, '-'},
		{"x...", 0, 3, 5, 24, 's'}, {"....", 3, 3, 5, 24, 's'}, {"....", 3, 3, 5, 23, '-'}, {"....", 3, 3, 5, 25, '-'}, {"xxxx", 3, 3, 5, 24, 's'}, // the fourth one: 1, 2
		{"....", 0, 3, 5, 24, '-'}, {"....", 3, 0, 5, 24, '-'}, {"x...", 3, 0, 5, 24, '-'}, {".xxx", 0, 3, 5, 24, '-'}, {"....", 3, 3, 24, 5, '-'},
		{"xxxx", 3, 3, 22, 24, 's'}, {"xxxx", 3, 3, 22, 23, 's'}, {"xxxx", 3, 3, 23, 24, 's'}, {"xxxx", 3, 3, 23, 23, 's'}, // two at once: the later one
		{"xxxx", 3, 0, 22, 24, 'f'}, {"xx..", 3, 0, 23, 24, 'f'}, {"xxxx", 3, 3, 25, 25, '-'}, {"xxxx", 3, 3, 21, 21, '-'}, {"xxxx", 3, 3, 24, 22, '-'},
	} {
		x := stateOf(weighing{slot: 103, bits: c.bits, first: c.first, second: c.second, final: 1})
		what := fmt.Sprintf("bits %s, %d and %d of 3, epochs %d, %d", c.bits, c.previous, c.current, c.first, c.second)
		y := wantWeigh(t, what, x, 3, c.previous, c.current)
		want := map[byte]api.Checkpoint{'f': x.OldJust, 's': x.Just, '-': x.Final}[c.want]
		if y.Final != want {
			t.Errorf("%s: Final is %v; want %v", what, y.Final, want)
		}
	}
}

// TestWeighAllSettings of the bits, of both weights, and of the epochs of both checkpoints around those that fit; at many slots.
func TestWeighAllSettings(t *testing.T) {
	for _, slot := range ends() {
		now := slot / 4
		for set := range 16 {
			for weights := range uint64(4) {
				for firstAgo := range min(now, 5) + 1 {
					for secondAgo := range min(now, 4) + 1 {
						w := weighing{slot: slot, bits: lettersOf(set), first: now - firstAgo, second: now - secondAgo, all: 3, previous: 1 + weights%2, current: 1 + weights/2}
						wantWeigh(t, fmt.Sprint(w), stateOf(w), w.all, w.previous, w.current)
					}
				}
			}
		}
		if t.Failed() {
			return
		}
	}
}

// TestWeighFinal stays where no row holds, wherever it stood; and it may be set back.
func TestWeighFinal(t *testing.T) {
	for _, final := range []uint64{0, 5, 22, 23, 24, 25} {
		x := stateOf(weighing{slot: 103, bits: "xxxx", first: 20, second: 19, final: final})
		if y := wantWeigh(t, "no row", x, 3, 3, 3); y.Final != x.Final {
			t.Errorf("Final is %v; want %v", y.Final, x.Final)
		}
		x.Just.Epoch = 23
		if y := wantWeigh(t, "a row", x, 3, 3, 3); y.Final != x.Just {
			t.Errorf("Final is %v; want %v", y.Final, x.Just)
		}
	}
}

// TestWeighRoots of the first slots: the previous epoch's may be the oldest one that is kept.
func TestWeighRoots(t *testing.T) {
	for _, slot := range ends() {
		x := stateOf(weighing{slot: slot, bits: "....", all: 3})
		what := fmt.Sprint("slot ", slot)
		y := wantWeigh(t, what, x, 3, 2, 1)
		if want := (api.Checkpoint{Epoch: previousOf(slot), Root: rootOf("block", int(previousOf(slot)*4%8))}); y.Just != want {
			t.Errorf("%s, the previous epoch: Just is %v; want %v", what, y.Just, want)
		}
		y = wantWeigh(t, what, x, 3, 1, 2)
		if want := (api.Checkpoint{Epoch: slot / 4, Root: rootOf("block", int((slot-3)%8))}); y.Just != want {
			t.Errorf("%s, the epoch: Just is %v; want %v", what, y.Just, want)
		}
	}
	for place := range 8 { // each of the others may change, and nothing else does
		x := stateOf(weighing{slot: 103, bits: "....", all: 3})
		x.BlockRoots[place][5]++
		before, now := wantWeigh(t, "another root", x, 3, 2, 1), wantWeigh(t, "another root", x, 3, 1, 2)
		if (before.Just.Root == rootOf("block", 0)) != (place != 0) || (now.Just.Root == rootOf("block", 4)) != (place != 4) {
			t.Errorf("another root at %d: %v, %v", place, before.Just, now.Just)
		}
	}
}

// TestWeighInEpochZero: the previous epoch is that itself, and is justified with the second bit.
func TestWeighInEpochZero(t *testing.T) {
	first := api.Checkpoint{Root: rootOf("block", 0)}
	for _, c := range []struct {
		previous, current uint64
		behind            string
	}{{0, 0, ".x.x"}, {3, 0, ".x.x"}, {0, 3, "xx.x"}, {3, 3, "xx.x"}} {
		x := stateOf(weighing{slot: 3, bits: "x.xx"})
		y := wantWeigh(t, "epoch 0", x, 3, c.previous, c.current)
		want := x.Just
		if c.previous+c.current > 0 {
			want = first
		}
		if y.Bits != bitsOf(c.behind) || y.Just != want || y.OldJust != x.Just || y.Final != x.Final {
			t.Errorf("epoch 0, %d and %d: bits %v, Just %v, OldJust %v, Final %v", c.previous, c.current, y.Bits, y.Just, y.OldJust, y.Final)
		}
	}
	x := stateOf(weighing{slot: 3, bits: "...."})
	if y := wantWeigh(t, "epoch 0", x, 3, 3, 0); y.Bits != bitsOf(".x..") || y.Just != first {
		t.Errorf("epoch 0: bits %v, Just %v", y.Bits, y.Just)
	}
}

// TestWeighInEpochOne: a checkpoint of epoch 0 is one ahead.
func TestWeighInEpochOne(t *testing.T) {
	x := stateOf(weighing{slot: 7, bits: "x..."})
	if y := wantWeigh(t, "epoch 1", x, 3, 0, 3); y.Final != x.Just || y.Just.Epoch != 1 || y.Bits != bitsOf("xx..") {
		t.Errorf("epoch 1: Final %v, Just %v, bits %v", y.Final, y.Just, y.Bits)
	}
	if y := wantWeigh(t, "epoch 1", x, 3, 3, 0); y.Final != x.Final || y.Just.Epoch != 0 || y.Just.Root != rootOf("block", 0) {
		t.Errorf("epoch 1: Final %v, Just %v", y.Final, y.Just)
	}
}

// TestWeighTwoThirds: just as much, one above and one below it, of each of the two by itself.
func TestWeighTwoThirds(t *testing.T) {
	for _, c := range []struct {
		part, all uint64
		enough    bool
	}{
		{0, 0, true}, {1, 0, true}, {heaviest, 0, true}, {0, 1, false}, {1, 1, true}, {1, 2, false}, {2, 2, true},
		{2, 3, true}, {1, 3, false}, {3, 3, true}, {3, 4, true}, {2, 4, false}, {4, 5, true}, {3, 5, false}, {4, 6, true}, {3, 6, false}, {5, 6, true}, {5, 7, true}, {4, 7, false}, {6, 8, true}, {5, 8, false},
		{20, 30, true}, {19, 30, false}, {21, 30, true}, {9, 3, true}, {heaviest, 3, true},
		{heaviest, heaviest, true}, {0, heaviest, false}, {1, heaviest, false}, {heaviest / 2, heaviest, false},
		{768614336404564651, heaviest, true}, {768614336404564650, heaviest, false}, // three times the one is two times all, and one above it; 2^60 isn't a multiple of 3
		{768614336404564650, heaviest - 1, true}, {768614336404564649, heaviest - 1, false}, {768614336404564651, heaviest - 1, true}, // this one is
		{1 << 32, 3 << 31, true}, {1<<32 - 1, 3 << 31, false}, {1 << 32, 3<<31 + 1, false}, {1 << 59, 3 << 58, true}, {1<<59 - 1, 3 << 58, false}, {1 << 59, 3<<58 + 1, false},
		{32 * gwei, 48 * gwei, true}, {32*gwei - 1, 48 * gwei, false}, {32*gwei + 1, 48 * gwei, true}, {31 * gwei, 48 * gwei, false},
	} {
		x := stateOf(weighing{slot: 103, bits: "....", first: 1, second: 2})
		what := fmt.Sprintf("%d of %d", c.part, c.all)
		if y := wantWeigh(t, "previous: "+what, x, c.all, c.part, 0); y.Bits[1] != c.enough || y.Bits[0] != (c.all == 0) {
			t.Errorf("previous: %s: bits %v", what, y.Bits)
		}
		if y := wantWeigh(t, "current: "+what, x, c.all, 0, c.part); y.Bits[0] != c.enough || y.Bits[1] != (c.all == 0) {
			t.Errorf("current: %s: bits %v", what, y.Bits)
		}
		if y := wantWeigh(t, "both: "+what, x, c.all, c.part, c.part); y.Bits[0] != c.enough || y.Bits[1] != c.enough {
			t.Errorf("both: %s: bits %v", what, y.Bits)
		}
	}
}

// TestWeighSmallNumbers: each three of them.
func TestWeighSmallNumbers(t *testing.T) {
	x := stateOf(weighing{slot: 103, bits: "x...", first: 23, second: 24})
	for all := range uint64(14) {
		for previous := range uint64(14) {
			for current := range uint64(14) {
				wantWeigh(t, fmt.Sprintf("%d: %d, %d", all, previous, current), x, all, previous, current)
			}
		}
	}
}

// TestWeighTooHeavy: each of the three by itself, and with others.
func TestWeighTooHeavy(t *testing.T) {
	x := stateOf(weighing{slot: 103, bits: "x...", first: 23, second: 24})
	numbers := []uint64{0, 1, heaviest - 1, heaviest, heaviest + 1, 1<<60 + 1<<59, 1 << 61, 1 << 62, top/3 + 1, top/3 + 2, 1 << 63, 1<<63 + 1, top - 1, top}
	for _, all := range numbers {
		for _, previous := range numbers {
			for _, current := range numbers {
				what := fmt.Sprintf("%d: %d, %d", all, previous, current)
				if max(all, previous, current) > heaviest {
					wantNoWeigh(t, what, x, all, previous, current)
				} else {
					wantWeigh(t, what, x, all, previous, current)
				}
			}
		}
	}
}

// TestWeighSlots: but at an epoch's end there is nothing to be weighed.
func TestWeighSlots(t *testing.T) {
	for _, slot := range append(someSlots(), ends()...) {
		for _, x := range []api.State{{Slot: slot}, stateOf(weighing{slot: slot, bits: "xxxx"}), withValidators(slot)} {
			what := fmt.Sprint("slot ", slot)
			if slot%4 == 3 {
				wantWeigh(t, what, x, 3, 2, 2)
				wantNoWeigh(t, what, x, 3, 2, heaviest+1)
			} else {
				wantNoWeigh(t, what, x, 3, 2, 2)
				wantNoWeigh(t, what, x, 0, 0, 0)
				wantNoWeigh(t, what, x, top, top, top)
			}
		}
	}
}

// TestWeighHasNoLookAtValidators: what is weighed is told.
func TestWeighHasNoLookAtValidators(t *testing.T) {
	for _, x := range []api.State{
		{Slot: 103}, withFlags(103, "FF", "FF", members(2, full)...), withFlags(103, "..", "..", members(2, full)...), withFlags(103, "FF", "FF", member(1, far, far), member(0, 0, 0)),
	} {
		x.Bits = [4]bool{}
		if y := wantWeigh(t, "told as nobody", x, 3, 1, 1); y.Bits != bitsOf("....") {
			t.Errorf("bits %v", y.Bits)
		}
		if y := wantWeigh(t, "told as all", x, 3, 2, 2); y.Bits != bitsOf("xx..") {
			t.Errorf("bits %v", y.Bits)
		}
	}
}

// TestWeighSameCheckpoints: where both are one, and Just is that of the epoch already.
func TestWeighSameCheckpoints(t *testing.T) {
	for _, epoch := range []uint64{21, 22, 23, 24, 25} {
		x := stateOf(weighing{slot: 103, bits: "xxxx", first: epoch, second: epoch, final: epoch})
		x.OldJust.Root = x.Just.Root
		for weights := range uint64(4) {
			wantWeigh(t, fmt.Sprint("both of epoch ", epoch), x, 3, 1+weights%2, 1+weights/2)
		}
	}
}

// TestWeighOfStatesThatArentRight, some of them with checkpoints whose epoch and 1, 2 or 3 would wrap round.
func TestWeighOfStatesThatArentRight(t *testing.T) {
	right := stateOf(weighing{slot: 103, bits: "xxxx", first: 23, second: 24})
	for what, x := range notRight(t, right) {
		wantNoWeigh(t, what, x, 3, 2, 2)
		wantNoWeigh(t, what, x, 3, 1, 1)
		wantNoWeigh(t, what, x, 0, 0, 0)
		wantNoWeigh(t, what, x, heaviest+1, 0, 0)
	}
	for _, slot := range []uint64{3, 7, 11, 15, 103} {
		for _, great := range []uint64{top, top - 1, top - 2, top - 3, slot/4 - 1 + 1<<63, 1 << 63, 1 << 62, slot/4 + 1} {
			x := stateOf(weighing{slot: slot, bits: "xxxx", first: great})
			wantNoWeigh(t, "a great OldJust", x, 3, 3, 3)
			wantNoJustify(t, "a great OldJust", x)
			x = stateOf(weighing{slot: slot, bits: "xxxx", second: great})
			wantNoWeigh(t, "a great Just", x, 3, 3, 3)
			wantNoJustify(t, "a great Just", x)
			x = stateOf(weighing{slot: slot, bits: "xxxx", final: great})
			wantNoWeigh(t, "a great Final", x, 3, 3, 3)
			wantNoJustify(t, "a great Final", x)
		}
	}
}

// TestWeighAgain goes on from what was answered: from the beginning on each epoch is weighed, and all attest.
func TestWeighAgain(t *testing.T) {
	x := withValidators(3, members(3, full)...)
	x.Bits = [4]bool{}
	for epoch := range uint64(20) {
		x.Slot = 4*epoch + 3
		x = wantWeigh(t, fmt.Sprint("epoch ", epoch), x, 3, 2, 2)
		if x.Just.Epoch != epoch || x.OldJust.Epoch != max(epoch, 1)-1 || x.Final.Epoch != max(epoch, 1)-1 {
			t.Fatalf("epoch %d: Just %v, OldJust %v, Final %v", epoch, x.Just, x.OldJust, x.Final)
		}
	}
	if y, err := just.Weigh(x, 3, 2, 2); err != api.OK || y.Just != x.Just || y.OldJust != x.Just || y.Bits != bitsOf("xxxx") {
		t.Errorf("once more in the same epoch: %v, %v, %v, error %d", y.Just, y.OldJust, y.Bits, err)
	}
}
