package just_test

import (
	"fmt"
	"slices"
	"strings"
	"testing"

	"pharos/api"
	"pharos/just"
)

// P22.3

// TestExamples of the chapter.
func TestExamples(t *testing.T) {
	x := withFlags(11, strings.Repeat("T", 16), strings.Repeat("T", 16), members(16, full)...)
	x.Bits, x.OldJust, x.Just, x.Final = [4]bool{}, api.Checkpoint{}, api.Checkpoint{}, api.Checkpoint{}
	y := wantJustify(t, "epoch 2", x)
	if want := (api.Checkpoint{Epoch: 2, Root: rootOf("block", 0)}); y.Just != want || y.Bits != bitsOf("xx..") || y.OldJust != x.Just || y.Final != x.Final {
		t.Errorf("epoch 2: Just %v, bits %v, OldJust %v, Final %v", y.Just, y.Bits, y.OldJust, y.Final)
	}
	y.Slot = 15
	z := wantJustify(t, "epoch 3", y)
	if want := (api.Checkpoint{Epoch: 3, Root: rootOf("block", 4)}); z.Just != want || z.Bits != bitsOf("xxx.") || z.OldJust != y.Just || z.Final != y.Just {
		t.Errorf("epoch 3: Just %v, bits %v, OldJust %v, Final %v", z.Just, z.Bits, z.OldJust, z.Final)
	}
}

// TestJustifyTooEarly: in epochs 0 and 1 the state is answered as it was, whatever its flags.
func TestJustifyTooEarly(t *testing.T) {
	for _, slot := range []uint64{3, 7} {
		for _, flags := range []string{"FFF", "TTT", "...", "T.."} {
			for set := range 16 {
				x := withFlags(slot, flags, flags, members(3, full)...)
				x.Bits = bitsOf(lettersOf(set))
				x.Just.Epoch = slot / 4
				what := fmt.Sprintf("slot %d, flags %s, bits %v", slot, flags, x.Bits)
				if y := wantJustify(t, what, x); !sameState(t, x, y) {
					t.Errorf("%s: something changed", what)
				}
			}
		}
		for _, x := range []api.State{{Slot: slot}, withValidators(slot)} {
			if y := wantJustify(t, "nobody", x); !sameState(t, x, y) {
				t.Errorf("nobody, slot %d: something changed", slot)
			}
		}
	}
	if y := wantJustify(t, "but not in epoch 2", withFlags(11, "TTT", "TTT", members(3, full)...)); y.Just.Epoch != 2 || y.Bits != bitsOf("xx.x") {
		t.Errorf("epoch 2: Just %v, bits %v", y.Just, y.Bits)
	}
}

// TestJustifySlots: at an epoch's end alone.
func TestJustifySlots(t *testing.T) {
	for _, slot := range append(someSlots(), ends()...) {
		for _, x := range []api.State{{Slot: slot}, withValidators(slot), withFlags(slot, "TT", "TT", members(2, full)...)} {
			what := fmt.Sprint("slot ", slot)
			if slot%4 == 3 {
				wantJustify(t, what, x)
			} else {
				wantNoJustify(t, what, x)
			}
		}
	}
}

// TestJustifyThirds: how many of three must attest, in each of both epochs.
func TestJustifyThirds(t *testing.T) {
	flags := []string{"...", "T..", "..T", "TT.", "T.T", "TTT", "SHS", "FFH", "FT.", "F5N", "23."}
	isEnough := []bool{false, false, false, true, true, true, false, true, true, false, true}
	for i, previous := range flags {
		for k, current := range flags {
			what := fmt.Sprintf("flags %s, %s", previous, current)
			x := withFlags(103, previous, current, members(3, full)...)
			x.Bits = [4]bool{}
			y := wantJustify(t, what, x)
			if y.Bits != [4]bool{isEnough[k], isEnough[i]} {
				t.Errorf("%s: bits %v", what, y.Bits)
			}
		}
	}
}

// TestJustifyByIncrements: just two thirds of them, and one less.
func TestJustifyByIncrements(t *testing.T) {
	for _, c := range []struct {
		with, without uint64 // Increments
		enough        bool
	}{
		{20, 10, true}, {19, 11, false}, {21, 9, true}, {20, 11, false}, {32, 16, true}, {32, 17, false}, {31, 16, false}, {31, 15, true},
		{2, 1, true}, {1, 1, false}, {1, 0, true}, {2, 2, false}, {4, 2, true}, {4, 3, false}, {3, 1, true},
		{0, 1, true}, {0, 2, false}, {0, 0, true}, {0, 32, false}, // nobody's sum is an Increment
	} {
		validators := []api.Validator{member(c.with, 0, far), member(c.without, 0, far)}
		what := fmt.Sprintf("%d with the flag, %d without", c.with, c.without)
		for _, flags := range [][2]string{{"T.", ".."}, {"..", "T."}, {"T.", "T."}} {
			x := withFlags(103, flags[0], flags[1], validators...)
			x.Bits = [4]bool{}
			nobody := c.with+c.without <= 1 // so that nobody is enough
			want := [4]bool{nobody || c.enough && flags[1] == "T.", nobody || c.enough && flags[0] == "T."}
			if y := wantJustify(t, what, x); y.Bits != want {
				t.Errorf("%s, flags %s: bits %v; want %v", what, flags, y.Bits, want)
			}
		}
	}
}

// TestJustifyOfNobody: where each of the three sums is an Increment, all is justified.
func TestJustifyOfNobody(t *testing.T) {
	for _, slot := range ends() {
		if slot < 8 {
			continue
		}
		for _, x := range []api.State{{Slot: slot}, withValidators(slot), withFlags(slot, "..", "..", member(0, 0, far), member(full, far, far)), withFlags(slot, ".", ".", member(1, 0, far))} {
			x.Bits = [4]bool{}
			y := wantJustify(t, fmt.Sprint("nobody, slot ", slot), x)
			if y.Bits != bitsOf("xx..") || y.Just.Epoch != slot/4 {
				t.Errorf("nobody, slot %d: bits %v, Just %v", slot, y.Bits, y.Just)
			}
		}
	}
}

// TestJustifyTargetsAlone: by no other flag.
func TestJustifyTargetsAlone(t *testing.T) {
	for set := range uint8(8) {
		x := withValidators(103, members(3, full)...)
		for i := range 3 {
			x.Previous[i], x.Current[i] = set, 7-set
		}
		x.Bits = [4]bool{}
		if y := wantJustify(t, fmt.Sprint("flags ", set), x); y.Bits != [4]bool{set&2 == 0, set&2 != 0} {
			t.Errorf("flags %d: bits %v", set, y.Bits)
		}
	}
}

// TestJustifyWhoCounts: the epoch's actives are all; who was active in the previous one alone counts there yet.
func TestJustifyWhoCounts(t *testing.T) {
	slashed := member(full, 0, far)
	slashed.Slashed = true
	for _, c := range []struct {
		what              string
		validators        []api.Validator
		previous, current string
		bits              string
	}{
		{"one came", []api.Validator{member(full, 0, far), member(full, 25, far)}, "FF", "F.", "...."},
		{"two came", []api.Validator{member(full, 0, far), member(full, 25, far), member(full, 25, far)}, "FFF", ".FF", "x..."},
		{"one comes next", []api.Validator{member(full, 0, far), member(full, 26, far)}, "F.", "F.", "xx.."},
		{"one left", []api.Validator{member(full, 0, far), member(full, 0, 25)}, ".F", ".F", ".x.."},
		{"one left, of four", []api.Validator{member(full, 0, far), member(full, 0, far), member(full, 0, far), member(full, 0, 25)}, "F..F", "F..F", ".x.."},
		{"one leaves next", []api.Validator{member(full, 0, far), member(full, 0, 26)}, "F.", "FF", "x..."},
		{"one left long ago", []api.Validator{member(full, 0, far), member(full, 0, 24)}, ".F", ".F", "...."},
		{"one is slashed", []api.Validator{member(full, 0, far), slashed}, "FF", "FF", "...."},
		{"one of three is slashed", []api.Validator{member(full, 0, far), slashed, member(full, 0, far)}, "FFF", "FFF", "xx.."},
		{"two of three are slashed", []api.Validator{member(full, 0, far), slashed, slashed}, "FFF", "FFF", "...."},
		{"all is slashed", []api.Validator{slashed}, "F", "F", "...."},
	} {
		x := withFlags(103, c.previous, c.current, c.validators...)
		x.Bits = [4]bool{}
		if y := wantJustify(t, c.what, x); y.Bits != bitsOf(c.bits) {
			t.Errorf("%s: bits %v; want %s", c.what, y.Bits, c.bits)
		}
	}
}

// TestJustifyByEffective: not by balances.
func TestJustifyByEffective(t *testing.T) {
	x := withFlags(103, "T.", ".T", member(20, 0, far), member(10, 0, far))
	x.Bits, x.Balances[0], x.Balances[1] = [4]bool{}, 0, 1000*gwei
	if y := wantJustify(t, "balances", x); y.Bits != bitsOf(".x..") {
		t.Errorf("bits %v", y.Bits)
	}
}

// TestJustifyIsWeigh of the three sums.
func TestJustifyIsWeigh(t *testing.T) {
	for _, slot := range ends()[2:] {
		for _, flags := range [][2]string{{"T..", "TT."}, {"TTT", "..."}, {"TT.", ".TT"}} {
			for set := range 16 {
				x := withFlags(slot, flags[0], flags[1], members(3, 7)...)
				x.Bits, x.OldJust.Epoch, x.Just.Epoch = bitsOf(lettersOf(set)), slot/4-2, slot/4-1
				sum := func(letters string) uint64 { return max(uint64(strings.Count(letters, "T"))*7, 1) * gwei }
				y, err := just.Weigh(x, 21*gwei, sum(flags[0]), sum(flags[1]))
				z := wantJustify(t, fmt.Sprintf("slot %d, flags %s, bits %v", slot, flags, x.Bits), x)
				if err != api.OK || !sameState(t, y, z) {
					t.Errorf("slot %d, flags %s: error %d, or another state", slot, flags, err)
				}
			}
		}
	}
}

// TestJustifyOfAFullRegistry: all that a right state may have.
func TestJustifyOfAFullRegistry(t *testing.T) {
	n := 1 << 16
	x := withValidators(lastSlot, members(n, full)...)
	x.Bits, x.Balances = [4]bool{}, make([]uint64, n)
	for _, c := range []struct {
		with   int
		enough bool
	}{{n, true}, {43691, true}, {43690, false}, {0, false}} {
		for i := range n {
			x.Current[i], x.Previous[i] = 5, 5
			if i < c.with {
				x.Current[i] = 2
			}
			if i >= n-c.with {
				x.Previous[i] = 2
			}
		}
		if y := wantJustify(t, "a full registry", x); y.Bits != [4]bool{c.enough, c.enough} {
			t.Errorf("%d of a full registry: bits %v", c.with, y.Bits)
		}
	}
}

// TestJustifyRow of epochs, each by the flags of both that go from Current to Previous: what is justified and final never goes back.
func TestJustifyRow(t *testing.T) {
	for _, c := range []struct {
		what   string
		flags  []string // of the epochs from 2 on; the last one goes on
		epochs []uint64 // Just and Final behind the last of some epochs
	}{
		{"all attest", []string{"TTT"}, []uint64{9, 8}},
		{"half of them", []string{"T.."}, []uint64{0, 0}},
		{"two thirds", []string{"TT."}, []uint64{9, 8}},
		{"each second epoch", []string{"TTT", "...", "TTT", "...", "TTT", "...", "TTT", "..."}, []uint64{8, 0}}, // justified are never two in a row
		{"two epochs of three", []string{"TTT", "TTT", "...", "TTT", "TTT", "...", "TTT", "TTT"}, []uint64{9, 8}},
		{"no more", []string{"TTT", "TTT", "TTT", "..."}, []uint64{4, 3}},
		{"from the epoch 6 on", []string{"...", "...", "...", "...", "TTT"}, []uint64{9, 8}},
	} {
		x := withFlags(11, "...", "...", members(3, full)...)
		x.Bits, x.OldJust, x.Just, x.Final = [4]bool{}, api.Checkpoint{}, api.Checkpoint{}, api.Checkpoint{}
		for epoch := uint64(2); epoch < 10; epoch++ {
			x.Slot = 4*epoch + 3
			letters := c.flags[min(int(epoch)-2, len(c.flags)-1)]
			for i := range 3 {
				x.Current[i] = flagsOf(letters[i])
			}
			y := wantJustify(t, fmt.Sprintf("%s, epoch %d", c.what, epoch), x)
			if y.Just.Epoch < x.Just.Epoch || y.Final.Epoch < x.Final.Epoch || y.Final.Epoch > y.Just.Epoch {
				t.Errorf("%s, epoch %d: Just was of %d, is of %d; Final was of %d, is of %d", c.what, epoch, x.Just.Epoch, y.Just.Epoch, x.Final.Epoch, y.Final.Epoch)
			}
			x = y
			copy(x.Previous, x.Current)
		}
		if got := []uint64{x.Just.Epoch, x.Final.Epoch}; !slices.Equal(got, c.epochs) {
			t.Errorf("%s: Just and Final are of %d; want %d", c.what, got, c.epochs)
		}
	}
}

func TestJustifyOfStatesThatArentRight(t *testing.T) {
	for _, slot := range []uint64{3, 7, 11, 103, lastSlot} {
		for what, x := range notRight(t, withFlags(slot, "TTT", "TTT", members(3, full)...)) {
			wantNoJustify(t, what, x)
		}
	}
}
