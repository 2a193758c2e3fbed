package look_test

import (
	"bytes"
	"crypto/sha256"
	"fmt"
	"math/big"
	"math/rand/v2"
	"reflect"
	"slices"
	"sync"
	"testing"

	"pharos/api"
	"pharos/look"
	"pharos/state"
)

const (
	far       = 1<<64 - 1
	lastEpoch = 1<<41 - 1 // of a validator, but Far
	lastSlot  = 1<<40 - 1
	gwei      = 1000000000
)

// States. All of them are right ones, which mustRight holds.

// room for so many, and some spare room, so that what writes there is seen.
func room[T any](n int) []T { return make([]T, n, n+3) }

// rootOf a number: another root for each.
func rootOf(what string, v int) api.Root { return sha256.Sum256(fmt.Append(nil, what, v)) }

// withValidators is a state at a slot with these validators; its roots and mixes differ from each other.
func withValidators(slot uint64, validators ...api.Validator) api.State {
	n := len(validators)
	x := api.State{
		Genesis: 5, GenesisRoot: rootOf("genesis", 0), Slot: slot, Deposits: 9,
		Validators: room[api.Validator](n), Balances: room[uint64](n),
		Previous: room[uint8](n), Current: room[uint8](n), Scores: room[uint64](n),
		History: room[api.Root](2), Votes: room[api.Eth1](1),
	}
	copy(x.Validators, validators)
	for i := range n {
		// Unlike the effective balances, which count.
		x.Balances[i], x.Scores[i], x.Previous[i], x.Current[i] = uint64(17*gwei+i), uint64(i+4), uint8(i), uint8(i+1)
	}
	for i := range 8 {
		x.BlockRoots[i], x.StateRoots[i], x.Mixes[i] = rootOf("block", i), rootOf("state", i), rootOf("mix", i)
		x.Slashings[i] = uint64(i) * gwei
	}
	return x
}

// member of so many Increments, active from an epoch on till another.
func member(increments, activation, exit uint64) api.Validator {
	return api.Validator{Effective: increments * gwei, Activation: activation, Exit: exit, Withdrawable: far}
}

// members: so many that are active always.
func members(n int, increments uint64) []api.Validator {
	return slices.Repeat([]api.Validator{member(increments, 0, far)}, n)
}

// mixed are so many validators, some active in the epochs around this one, and some not.
func mixed(n int, epoch uint64, r *rand.Rand) []api.Validator {
	near := func() uint64 {
		if r.IntN(4) == 0 {
			return far
		}
		return epoch + uint64(r.IntN(7)) - uint64(min(3, epoch))
	}
	all := make([]api.Validator, n)
	for i := range all {
		all[i] = api.Validator{
			Effective: uint64(r.IntN(33)) * gwei, Slashed: r.IntN(2) == 0,
			Eligible: near(), Activation: near(), Exit: near(), Withdrawable: near(),
		}
		if r.IntN(2) == 0 {
			all[i].Activation = 0
		}
	}
	return all
}

func mustRight(t *testing.T, x api.State) {
	t.Helper()
	if !state.Right(x) {
		t.Fatalf("the test's own state at slot %d with %d validators isn't right", x.Slot, len(x.Validators))
	}
}

// Second readings of the chapter, in numbers that can't wrap and with the library's hash.

func number(n uint64) *big.Int { return new(big.Int).SetUint64(n) }

func plainActive(v api.Validator, epoch uint64) bool {
	notYet := number(v.Activation).Cmp(number(epoch)) > 0
	gone := number(v.Exit).Cmp(number(epoch)) <= 0
	return !notYet && !gone
}

func plainActives(x api.State, epoch uint64) []uint64 {
	var all []uint64
	for i := range x.Validators {
		if plainActive(x.Validators[i], epoch) {
			all = append(all, uint64(i))
		}
	}
	return all
}

func plainCanSlash(v api.Validator, epoch uint64) bool {
	if v.Slashed {
		return false
	}
	return plainActive(api.Validator{Activation: v.Activation, Exit: v.Withdrawable}, epoch)
}

func plainTotal(x api.State, who []uint64) *big.Int {
	sum := new(big.Int)
	for _, i := range who {
		for k, v := range x.Validators {
			if uint64(k) == i {
				sum.Add(sum, number(v.Effective))
			}
		}
	}
	if sum.Cmp(number(gwei)) < 0 {
		return number(gwei)
	}
	return sum
}

func plainChurn(x api.State) uint64 {
	n := len(plainActives(x, x.Slot/4)) / 32
	if n < 2 {
		return 2
	}
	return uint64(n)
}

func plainReward(x api.State, i int) *big.Int {
	all := new(big.Int)
	for _, k := range plainActives(x, x.Slot/4) {
		all.Add(all, number(x.Validators[k].Effective))
	}
	if all.Cmp(number(gwei)) < 0 {
		all = number(gwei)
	}
	ofIncrement := new(big.Int).Div(number(64*gwei), new(big.Int).Sqrt(all))
	increments := new(big.Int).Div(number(x.Validators[i].Effective), number(gwei))
	return increments.Mul(increments, ofIncrement)
}

func plainRootAt(x api.State, slot uint64) (api.Root, api.Errno) {
	behind := new(big.Int).Add(number(slot), number(8))
	if number(slot).Cmp(number(x.Slot)) >= 0 || behind.Cmp(number(x.Slot)) < 0 {
		return api.Root{}, api.ErrArg
	}
	return x.BlockRoots[slot%8], api.OK
}

func plainLeak(x api.State) bool {
	previous := number(x.Slot / 4)
	if previous.Sign() > 0 {
		previous.Sub(previous, number(1))
	}
	return previous.Sub(previous, number(x.Final.Epoch)).Cmp(number(4)) > 0
}

// plainSeed tells bytes by the remainders of a number that can't wrap, also of a negative one.
func plainSeed(x api.State, epoch uint64, kind int) api.Root {
	var b []byte
	rest := big.NewInt(int64(kind))
	for range 4 {
		rest, b = nextByte(rest, b)
	}
	rest = number(epoch)
	for range 8 {
		rest, b = nextByte(rest, b)
	}
	place := new(big.Int).Add(number(epoch), number(6))
	mix := x.Mixes[place.Mod(place, number(8)).Uint64()]
	return sha256.Sum256(append(b, mix[:]...))
}

func nextByte(rest *big.Int, b []byte) (*big.Int, []byte) {
	quotient, low := new(big.Int).DivMod(rest, number(256), new(big.Int))
	return quotient, append(b, byte(low.Uint64()))
}

// What is wanted.

func wantActives(t *testing.T, x api.State, epoch uint64, want ...uint64) {
	t.Helper()
	mustRight(t, x)
	if got := look.Actives(x, epoch); !slices.Equal(got, want) {
		t.Errorf("Actives of %d validators in epoch %d: %d; want %d", len(x.Validators), epoch, got, want)
	}
}

func wantTotal(t *testing.T, x api.State, who []uint64, want uint64) {
	t.Helper()
	mustRight(t, x)
	if got := look.Total(x, who); got != want {
		t.Errorf("Total of %d in %d validators: %d; want %d", who, len(x.Validators), got, want)
	}
	if plain := plainTotal(x, who); plain.Cmp(number(want)) != 0 {
		t.Errorf("the total of %d by the second reading: %d; want %d", who, plain, want)
	}
}

func wantChurn(t *testing.T, x api.State, want uint64) {
	t.Helper()
	mustRight(t, x)
	if got := look.Churn(x); got != want {
		t.Errorf("Churn at slot %d with %d validators: %d; want %d", x.Slot, len(x.Validators), got, want)
	}
}

func wantReward(t *testing.T, x api.State, i, want uint64) {
	t.Helper()
	mustRight(t, x)
	if got, err := look.Reward(x, i); got != want || err != api.OK {
		t.Errorf("Reward of %d in %d validators: %d, error %d; want %d", i, len(x.Validators), got, err, want)
	}
}

func wantNoReward(t *testing.T, x api.State, i uint64) {
	t.Helper()
	mustRight(t, x)
	if got, err := look.Reward(x, i); got != 0 || err != api.ErrArg {
		t.Errorf("Reward of %d in %d validators: %d, error %d; want 0, ErrArg", i, len(x.Validators), got, err)
	}
}

func wantRootAt(t *testing.T, x api.State, slot uint64, want api.Root) {
	t.Helper()
	mustRight(t, x)
	if got, err := look.RootAt(x, slot); got != want || err != api.OK {
		t.Errorf("RootAt(%d) at slot %d: %x, error %d; want %x", slot, x.Slot, got, err, want)
	}
}

func wantNoRoot(t *testing.T, x api.State, slot uint64) {
	t.Helper()
	mustRight(t, x)
	if got, err := look.RootAt(x, slot); got != (api.Root{}) || err != api.ErrArg {
		t.Errorf("RootAt(%d) at slot %d: %x, error %d; want the zero root, ErrArg", slot, x.Slot, got, err)
	}
}

func wantLeak(t *testing.T, slot, final uint64, want bool) {
	t.Helper()
	x := withValidators(slot, members(3, 32)...)
	x.Final.Epoch = final
	mustRight(t, x)
	if got := look.Leak(x); got != want {
		t.Errorf("Leak at slot %d, with the epoch %d final: %v; want %v", slot, final, got, want)
	}
	if plain := plainLeak(x); plain != want {
		t.Errorf("the leak at slot %d, with the epoch %d final, by the second reading: %v; want %v", slot, final, plain, want)
	}
}

func wantSeed(t *testing.T, x api.State, epoch uint64, kind int, want api.Root) {
	t.Helper()
	mustRight(t, x)
	if got := look.Seed(x, epoch, kind); got != want {
		t.Errorf("Seed(%d, %d): %x; want %x", epoch, kind, got, want)
	}
}

// The chapter's examples.

func TestExamples(t *testing.T) {
	zero := api.State{}
	wantActives(t, zero, 0)
	wantTotal(t, zero, nil, gwei)
	wantChurn(t, zero, 2)
	wantNoRoot(t, zero, 0)
	for _, slot := range []uint64{0, 3, 4, 103, lastSlot} {
		x := withValidators(slot, member(32, 0, far))
		wantReward(t, x, 0, 32*357771)
		wantReward(t, x, 0, 32*(64000000000/178885))
	}
}

// P13.1

func TestActiveAtTheEdges(t *testing.T) {
	for _, c := range []struct {
		activation, exit, epoch uint64
		want                    bool
	}{
		{5, 9, 0, false}, {5, 9, 4, false}, {5, 9, 5, true}, {5, 9, 6, true},
		{5, 9, 8, true}, {5, 9, 9, false}, {5, 9, 10, false}, {5, 9, far, false},
		{0, far, 0, true}, {0, far, 1, true}, {0, far, lastEpoch, true}, {0, far, far - 1, true}, {0, far, far, false},
		{0, 0, 0, false}, {0, 1, 0, true}, {0, 1, 1, false},
		{5, 5, 4, false}, {5, 5, 5, false}, {5, 5, 6, false},
		{5, 6, 4, false}, {5, 6, 5, true}, {5, 6, 6, false},
		// Who leaves ahead of having come is never active.
		{9, 5, 4, false}, {9, 5, 5, false}, {9, 5, 7, false}, {9, 5, 9, false}, {9, 5, 10, false},
		{far, far, 0, false}, {far, far, far - 1, false}, {far, far, far, false},
		{far, 5, 4, false}, {far, 0, far, false},
		{lastEpoch, far, lastEpoch - 1, false}, {lastEpoch, far, lastEpoch, true}, {lastEpoch, far, lastEpoch + 1, true},
		{0, lastEpoch, lastEpoch - 1, true}, {0, lastEpoch, lastEpoch, false},
		{1 << 32, 1<<32 + 1, 0, false}, {1 << 32, 1<<32 + 1, 1 << 32, true}, {1 << 32, 1<<32 + 1, 1<<32 + 1, false},
	} {
		for _, slashed := range []bool{false, true} {
			// Neither the balance nor the other epochs matter, nor whether it is slashed.
			for _, other := range []uint64{0, 5, far} {
				v := api.Validator{Effective: other % 33 * gwei, Slashed: slashed, Eligible: other, Activation: c.activation, Exit: c.exit, Withdrawable: other}
				if got := look.Active(v, c.epoch); got != c.want {
					t.Errorf("Active of %d to %d in epoch %d: %v; want %v", c.activation, c.exit, c.epoch, got, c.want)
				}
				if plain := plainActive(v, c.epoch); plain != c.want {
					t.Errorf("the second reading of %d to %d in epoch %d: %v; want %v", c.activation, c.exit, c.epoch, plain, c.want)
				}
			}
		}
	}
}

func TestActivesOfNobody(t *testing.T) {
	for _, epoch := range []uint64{0, 1, 25, lastEpoch, far} {
		wantActives(t, withValidators(103), epoch)
		wantActives(t, api.State{Validators: []api.Validator{}}, epoch)
	}
}

func TestActivesOfOne(t *testing.T) {
	x := withValidators(0, member(32, 3, 7))
	for epoch, active := range []bool{false, false, false, true, true, true, true, false, false} {
		if active {
			wantActives(t, x, uint64(epoch), 0)
		} else {
			wantActives(t, x, uint64(epoch))
		}
	}
}

// TestActivesOfSome: the epoch is the one that is asked for, not the state's own.
func TestActivesOfSome(t *testing.T) {
	for _, slot := range []uint64{0, 20, 103} {
		x := withValidators(slot, member(32, 5, 9), member(0, 0, far), member(1, 6, far), member(32, far, far), member(9, 0, 5), member(32, 4, 6))
		wantActives(t, x, 0, 1, 4)
		wantActives(t, x, 3, 1, 4)
		wantActives(t, x, 4, 1, 4, 5)
		wantActives(t, x, 5, 0, 1, 5)
		wantActives(t, x, 6, 0, 1, 2)
		wantActives(t, x, 8, 0, 1, 2)
		wantActives(t, x, 9, 1, 2)
		wantActives(t, x, far-1, 1, 2)
		wantActives(t, x, far)
	}
}

func TestActivesOfMany(t *testing.T) {
	r := rand.New(rand.NewPCG(13, 1))
	for _, n := range []int{1, 2, 3, 7, 64, 65, 1000} {
		for _, epoch := range []uint64{0, 1, 2, 25, 1 << 32, lastEpoch - 9} {
			x := withValidators(103, mixed(n, epoch, r)...)
			for _, asked := range []uint64{epoch, epoch + 1, epoch + 3, 0, far} {
				wantActives(t, x, asked, plainActives(x, asked)...)
			}
		}
	}
	x := withValidators(0, members(api.MaxValidators, 32)...)
	x.Validators[40000].Activation = 1
	x.Validators[65535].Exit = 1
	if got := look.Actives(x, 0); len(got) != 65535 || got[39999] != 39999 || got[40000] != 40001 || got[65534] != 65535 {
		t.Errorf("Actives of 65536, but one: %d", len(got))
	}
	if got := look.Actives(x, 1); len(got) != 65535 || got[65534] != 65534 {
		t.Errorf("Actives of 65536, but the last: %d", len(got))
	}
}

func TestCanSlashAtTheEdges(t *testing.T) {
	for _, c := range []struct {
		activation, withdrawable, epoch uint64
		want                            bool
	}{
		{5, 9, 0, false}, {5, 9, 4, false}, {5, 9, 5, true}, {5, 9, 6, true},
		{5, 9, 8, true}, {5, 9, 9, false}, {5, 9, 10, false}, {5, 9, far, false},
		{0, far, 0, true}, {0, far, far - 1, true}, {0, far, far, false},
		{0, 0, 0, false}, {0, 1, 0, true}, {0, 1, 1, false}, {5, 5, 5, false}, {9, 5, 7, false},
		{far, far, 0, false}, {far, far, far, false}, {far, 0, far, false},
		{lastEpoch, far, lastEpoch - 1, false}, {lastEpoch, far, lastEpoch, true},
		{0, lastEpoch, lastEpoch - 1, true}, {0, lastEpoch, lastEpoch, false},
	} {
		// Whether it is active doesn't matter: its Exit may be over, or its balance nothing.
		for _, other := range []uint64{0, 5, 6, far} {
			v := api.Validator{Effective: other % 33 * gwei, Eligible: other, Activation: c.activation, Exit: other, Withdrawable: c.withdrawable}
			if got := look.CanSlash(v, c.epoch); got != c.want || plainCanSlash(v, c.epoch) != c.want {
				t.Errorf("CanSlash of %d to %d in epoch %d: %v; want %v", c.activation, c.withdrawable, c.epoch, got, c.want)
			}
			v.Slashed = true
			if look.CanSlash(v, c.epoch) || plainCanSlash(v, c.epoch) {
				t.Errorf("CanSlash of a slashed one, %d to %d, in epoch %d", c.activation, c.withdrawable, c.epoch)
			}
		}
	}
}

func TestActiveAndCanSlashByChance(t *testing.T) {
	r := rand.New(rand.NewPCG(13, 2))
	seen := map[[2]bool]int{}
	for range 20000 {
		epoch := uint64(r.IntN(9))
		if r.IntN(10) == 0 {
			epoch = far - epoch
		}
		v := mixed(1, epoch%1000, r)[0]
		active, can := plainActive(v, epoch), plainCanSlash(v, epoch)
		seen[[2]bool{active, can}]++
		if look.Active(v, epoch) != active || look.CanSlash(v, epoch) != can {
			t.Errorf("epoch %d, %v: Active %v, CanSlash %v; want %v, %v", epoch, v, look.Active(v, epoch), look.CanSlash(v, epoch), active, can)
		}
	}
	if len(seen) != 4 {
		t.Errorf("chance made %v", seen)
	}
}

// P13.2

func TestTotal(t *testing.T) {
	x := withValidators(103, member(32, 0, far), member(1, 0, far), member(0, 0, far), member(17, far, far), member(5, 0, 1), member(2, 0, far))
	for _, c := range []struct {
		who  []uint64
		want uint64 // Increments
	}{
		{nil, 1},
		{[]uint64{}, 1},
		{[]uint64{0}, 32},
		// Just below an Increment there is nothing but nothing, as balances are whole Increments; at it, and above.
		{[]uint64{2}, 1},
		{[]uint64{2, 2, 2}, 1},
		{[]uint64{1}, 1},
		{[]uint64{1, 2}, 1},
		{[]uint64{1, 1}, 2},
		{[]uint64{5}, 2},
		// Who isn't active counts too.
		{[]uint64{3}, 17},
		{[]uint64{4}, 5},
		{[]uint64{0, 1, 2, 3, 4, 5}, 57},
		// In any order.
		{[]uint64{5, 0, 4, 1, 3, 2}, 57},
		// One that stands twice counts twice.
		{[]uint64{0, 0}, 64},
		{[]uint64{0, 3, 0, 3, 0}, 130},
		// Those that aren't there count nothing.
		{[]uint64{6}, 1},
		{[]uint64{far}, 1},
		{[]uint64{far, far, far - 1, 1 << 63, 1<<63 - 1}, 1},
		{[]uint64{6, 7, 1 << 16, 1 << 32, 1<<32 + 1, far}, 1},
		{[]uint64{6, 1, far}, 1},
		{[]uint64{far, 3, 6, 5, 1 << 32}, 19},
		{[]uint64{5, 6}, 2},
	} {
		wantTotal(t, x, c.who, c.want*gwei)
	}
}

func TestTotalWithoutValidators(t *testing.T) {
	for _, x := range []api.State{{}, withValidators(103)} {
		for _, who := range [][]uint64{nil, {0}, {0, 1, far}, {far}} {
			wantTotal(t, x, who, gwei)
		}
	}
}

// TestTotalIsOfEffectives: not of the balances, which are other ones here.
func TestTotalIsOfEffectives(t *testing.T) {
	x := withValidators(103, member(3, 0, far), member(4, 0, far))
	x.Balances[0], x.Balances[1] = 1<<56, 0
	wantTotal(t, x, []uint64{0}, 3*gwei)
	wantTotal(t, x, []uint64{1}, 4*gwei)
	wantTotal(t, x, []uint64{0, 1}, 7*gwei)
}

func TestTotalOfMany(t *testing.T) {
	x := withValidators(103, members(api.MaxValidators, 32)...)
	mustRight(t, x)
	all := make([]uint64, api.MaxValidators)
	if got := look.Total(x, all); got != 65536*32*gwei {
		t.Errorf("Total of 2^16 times the first: %d", got)
	}
	for i := range all {
		all[i] = uint64(i)
	}
	if got := look.Total(x, all); got != 65536*32*gwei {
		t.Errorf("Total of all 2^16: %d", got)
	}
	if got := look.Total(x, all[1:]); got != 65535*32*gwei {
		t.Errorf("Total of all but one: %d", got)
	}
	x.Validators[65535].Effective = 7 * gwei
	if got := look.Total(x, []uint64{65535, 65536}); got != 7*gwei {
		t.Errorf("Total of the last and the one behind it: %d", got)
	}
	r := rand.New(rand.NewPCG(13, 3))
	for range 200 {
		x := withValidators(103, mixed(r.IntN(20), 25, r)...)
		who := make([]uint64, r.IntN(40))
		for i := range who {
			who[i] = uint64(r.IntN(24))
			if who[i] == 23 {
				who[i] = far - uint64(r.IntN(30))
			}
		}
		wantTotal(t, x, who, plainTotal(x, who).Uint64())
	}
}

func TestChurn(t *testing.T) {
	for n, want := range map[int]uint64{
		0: 2, 1: 2, 31: 2, 32: 2, 33: 2, 63: 2, 64: 2, 65: 2, 95: 2, 96: 3, 97: 3, 127: 3, 128: 4, 1000: 31, 65535: 2047, 65536: 2048,
	} {
		for _, slot := range []uint64{0, 103} {
			wantChurn(t, withValidators(slot, members(n, 32)...), want)
		}
	}
}

// TestChurnCountsActives: of the state's own epoch, whatever they have.
func TestChurnCountsActives(t *testing.T) {
	for _, more := range []int{1, 100, 500} {
		crowd := append(members(95, 0), slices.Repeat([]api.Validator{member(32, 0, 25), member(32, 26, far), member(32, far, far)}, more)...)
		wantChurn(t, withValidators(100, crowd...), 2)
		wantChurn(t, withValidators(103, crowd...), 2)
		crowd = append(crowd, member(1, 25, 26))
		wantChurn(t, withValidators(100, crowd...), 3)
		wantChurn(t, withValidators(103, crowd...), 3)
	}
	// An epoch has four slots: its last one is of it yet.
	crowd := append(members(64, 32), slices.Repeat([]api.Validator{member(32, 25, 26)}, 64)...)
	for slot, want := range map[uint64]uint64{96: 2, 99: 2, 100: 4, 101: 4, 102: 4, 103: 4, 104: 2, 105: 2} {
		wantChurn(t, withValidators(slot, crowd...), want)
	}
	r := rand.New(rand.NewPCG(13, 4))
	for range 200 {
		x := withValidators(100+uint64(r.IntN(8)), mixed(r.IntN(400), 25, r)...)
		wantChurn(t, x, plainChurn(x))
	}
}

// P13.3

func TestRewardByHand(t *testing.T) {
	// The root of 10^9 is 31622.77, that of 4 * 10^9 63245.55, that of 64 * 10^9 252982.21.
	one := withValidators(103, member(1, 0, far))
	wantReward(t, one, 0, 64000000000/31622)
	wantReward(t, one, 0, 2023907)
	four := withValidators(103, members(4, 1)...)
	wantReward(t, four, 3, 1011937)
	two := withValidators(103, members(2, 32)...)
	wantReward(t, two, 0, 32*252982)
	wantReward(t, two, 1, 32*252982)
	// 25 Increments: 25 * 10^9 has the root 158113.88; 10^10 is the square of 10^5.
	wantReward(t, withValidators(103, member(25, 0, far)), 0, 25*404773)
	wantReward(t, withValidators(103, member(10, 0, far)), 0, 10*640000)
	wantReward(t, withValidators(103, member(9, 0, far), member(1, 0, far)), 0, 9*640000)
	wantReward(t, withValidators(103, member(9, 0, far), member(1, 0, far)), 1, 640000)
	wantReward(t, withValidators(103, member(9, 0, far), member(1, 0, far), member(0, 0, far)), 2, 0)
}

// TestRewardOfWhoIsNotActive: its balance counts for itself, but not in All.
func TestRewardOfWhoIsNotActive(t *testing.T) {
	for _, slot := range []uint64{100, 103} {
		x := withValidators(slot, member(10, 0, far), member(32, 26, far), member(31, 0, 25), member(7, far, far))
		wantReward(t, x, 0, 10*640000)
		wantReward(t, x, 1, 32*640000)
		wantReward(t, x, 2, 31*640000)
		wantReward(t, x, 3, 7*640000)
	}
	// Where nobody is active, or nobody has anything, All is an Increment.
	x := withValidators(103, member(32, 26, far), member(3, 0, 25))
	wantReward(t, x, 0, 32*2023907)
	wantReward(t, x, 1, 3*2023907)
	x = withValidators(103, member(0, 0, far), member(5, far, far))
	wantReward(t, x, 0, 0)
	wantReward(t, x, 1, 5*2023907)
}

// TestRewardOfTheEpoch: All is that of the state's own epoch.
func TestRewardOfTheEpoch(t *testing.T) {
	for slot, want := range map[uint64]uint64{96: 640000, 99: 640000, 100: 320000, 103: 320000, 104: 640000} {
		x := withValidators(slot, member(10, 0, far), member(30, 25, 26))
		wantReward(t, x, 0, 10*want)
		wantReward(t, x, 1, 30*want)
	}
}

func TestRewardOfNobody(t *testing.T) {
	for _, n := range []int{0, 1, 2, 5, 64} {
		x := withValidators(103, members(n, 32)...)
		for i := range n {
			wantReward(t, x, uint64(i), plainReward(x, i).Uint64())
		}
		for _, i := range []uint64{uint64(n), uint64(n + 1), uint64(n + 3), 1 << 16, 1 << 32, 1<<32 + 1, 1<<63 - 1, 1 << 63, far - 1, far} {
			wantNoReward(t, x, i)
		}
	}
	wantNoReward(t, api.State{}, 0)
	wantNoReward(t, api.State{}, far)
}

func TestRewardOfMany(t *testing.T) {
	x := withValidators(103, members(api.MaxValidators, 32)...)
	// The root of 65536 * 32 * 10^9 is 45794672.18.
	wantReward(t, x, 65535, 32*1397)
	wantNoReward(t, x, 65536)
	r := rand.New(rand.NewPCG(13, 5))
	for range 300 {
		x := withValidators(100+uint64(r.IntN(8)), mixed(1+r.IntN(100), 25, r)...)
		for range 3 {
			i := r.IntN(len(x.Validators))
			wantReward(t, x, uint64(i), plainReward(x, i).Uint64())
		}
	}
}

// P13.4

func TestRootAtTheEdges(t *testing.T) {
	for _, slot := range []uint64{8, 9, 10, 15, 16, 17, 103, 1 << 32, lastSlot - 1, lastSlot} {
		x := withValidators(slot)
		for back := uint64(1); back <= 8; back++ {
			wantRootAt(t, x, slot-back, rootOf("block", int((slot-back)%8)))
		}
		if slot > 8 {
			wantNoRoot(t, x, slot-9)
			wantNoRoot(t, x, 0)
		}
		for _, more := range []uint64{0, 1, 7, 8, 9, 16, slot} {
			wantNoRoot(t, x, slot+more)
		}
	}
}

// TestRootAtNothingWraps: slots close to 2^64 are all too late, though 8 more would be small.
func TestRootAtNothingWraps(t *testing.T) {
	for _, slot := range []uint64{0, 1, 2, 7, 8, 9, 103, lastSlot} {
		x := withValidators(slot)
		for less := range uint64(20) {
			wantNoRoot(t, x, far-less)
			wantNoRoot(t, x, 1<<63-less)
			wantNoRoot(t, x, 1<<63+less)
		}
	}
}

func TestRootAtTheBeginning(t *testing.T) {
	for slot := range uint64(9) {
		x := withValidators(slot)
		for asked := range uint64(20) {
			if asked < slot {
				wantRootAt(t, x, asked, rootOf("block", int(asked%8)))
			} else {
				wantNoRoot(t, x, asked)
			}
		}
	}
}

func TestRootAtByAllSlots(t *testing.T) {
	for slot := range uint64(40) {
		x := withValidators(slot)
		for asked := range uint64(60) {
			got, err := look.RootAt(x, asked)
			if want, wantErr := plainRootAt(x, asked); got != want || err != wantErr {
				t.Errorf("RootAt(%d) at slot %d: %x, error %d; want %x, error %d", asked, slot, got, err, want, wantErr)
			}
		}
	}
}

// TestLeak: at the slots of the epoch e the previous one is e - 1.
func TestLeak(t *testing.T) {
	for _, first := range []uint64{0, 1, 3, 20, 1 << 32} {
		// The previous epoch 3, 4, 5 and 6 above what is final.
		for above, want := range map[uint64]bool{0: false, 1: false, 3: false, 4: false, 5: true, 6: true, 100: true} {
			for late := range uint64(4) {
				wantLeak(t, 4*(first+above+1)+late, first, want)
			}
		}
	}
	wantLeak(t, lastSlot, 1<<38-1, false)
	wantLeak(t, lastSlot, 1<<38-2, false)
	wantLeak(t, lastSlot, 1<<38-6, false)
	wantLeak(t, lastSlot, 1<<38-7, true)
	wantLeak(t, lastSlot, 0, true)
}

// TestLeakWithFinalAbove the previous epoch, which it may be by one; the differences don't wrap.
func TestLeakWithFinalAbove(t *testing.T) {
	for _, epoch := range []uint64{1, 2, 4, 5, 6, 25, 1 << 32} {
		wantLeak(t, 4*epoch, epoch, false)
		wantLeak(t, 4*epoch+3, epoch, false)
	}
}

// TestLeakAtTheBeginning: ahead of the epoch 0 there is none, so that it is its own previous one.
func TestLeakAtTheBeginning(t *testing.T) {
	for slot := range uint64(24) {
		wantLeak(t, slot, 0, false)
	}
	for slot := uint64(24); slot < 40; slot++ {
		wantLeak(t, slot, 0, true)
	}
}

// TestLeakAsksForFinal alone: not for what is justified.
func TestLeakAsksForFinal(t *testing.T) {
	x := withValidators(103, members(3, 32)...)
	for _, epoch := range []uint64{0, 25} {
		x.Just.Epoch, x.OldJust.Epoch = epoch, epoch
		x.Final.Epoch = 20
		mustRight(t, x)
		if look.Leak(x) {
			t.Errorf("Leak in epoch 25, with 20 final and %d justified", epoch)
		}
		x.Final.Epoch = 18
		if !look.Leak(x) {
			t.Errorf("no Leak in epoch 25, with 18 final and %d justified", epoch)
		}
	}
}

// P13.5

// someKinds: those of domains, negative ones, and such above 2^32.
func someKinds() []int {
	return []int{
		0, 1, 2, 3, 4, 7, 255, 256, 257, 0x01020304, 1<<31 - 1, 1 << 31, 1<<32 - 1,
		1 << 32, 1<<32 + 1, 5<<32 + 7, 1<<63 - 1, -1, -2, -256, -1 << 31, -1<<31 - 1, -1 << 32, -1<<32 + 1, -1 << 63,
	}
}

// someEpochs: all remainders modulo 8, small and great.
func someEpochs() []uint64 {
	var all []uint64
	for k := range uint64(8) {
		all = append(all, k, 24+k, 1<<8-4+k, 1<<32-4+k, 1<<40+k, 1<<63-4+k, far-k)
	}
	return all
}

func TestSeed(t *testing.T) {
	for _, x := range []api.State{{}, withValidators(0), withValidators(103, members(5, 32)...), withValidators(lastSlot)} {
		for _, epoch := range someEpochs() {
			for _, kind := range someKinds() {
				wantSeed(t, x, epoch, kind, plainSeed(x, epoch, kind))
			}
		}
	}
}

// TestSeedByHand: the 44 bytes that are hashed, written out.
func TestSeedByHand(t *testing.T) {
	x := withValidators(103)
	for _, c := range []struct {
		epoch uint64
		kind  int
		front string
		mix   int
	}{
		{0, 0, "\x00\x00\x00\x00" + "\x00\x00\x00\x00\x00\x00\x00\x00", 6},
		{1, 0, "\x00\x00\x00\x00" + "\x01\x00\x00\x00\x00\x00\x00\x00", 7},
		{2, 1, "\x01\x00\x00\x00" + "\x02\x00\x00\x00\x00\x00\x00\x00", 0},
		{3, 2, "\x02\x00\x00\x00" + "\x03\x00\x00\x00\x00\x00\x00\x00", 1},
		{4, 3, "\x03\x00\x00\x00" + "\x04\x00\x00\x00\x00\x00\x00\x00", 2},
		{5, 4, "\x04\x00\x00\x00" + "\x05\x00\x00\x00\x00\x00\x00\x00", 3},
		{6, 7, "\x07\x00\x00\x00" + "\x06\x00\x00\x00\x00\x00\x00\x00", 4},
		{7, 256, "\x00\x01\x00\x00" + "\x07\x00\x00\x00\x00\x00\x00\x00", 5},
		{8, 0x01020304, "\x04\x03\x02\x01" + "\x08\x00\x00\x00\x00\x00\x00\x00", 6},
		{0x0102030405060708, -1, "\xff\xff\xff\xff" + "\x08\x07\x06\x05\x04\x03\x02\x01", 6},
		{far, 1 << 32, "\x00\x00\x00\x00" + "\xff\xff\xff\xff\xff\xff\xff\xff", 5},
		{far - 1, -2, "\xfe\xff\xff\xff" + "\xfe\xff\xff\xff\xff\xff\xff\xff", 4},
		{far - 5, 9<<32 + 1, "\x01\x00\x00\x00" + "\xfa\xff\xff\xff\xff\xff\xff\xff", 0},
		{far - 6, -1 << 63, "\x00\x00\x00\x00" + "\xf9\xff\xff\xff\xff\xff\xff\xff", 7},
	} {
		mix := rootOf("mix", c.mix)
		wantSeed(t, x, c.epoch, c.kind, sha256.Sum256(append([]byte(c.front), mix[:]...)))
	}
}

// TestSeedTakesOneMix: a change of it alone makes another seed, whichever bit it is.
func TestSeedTakesOneMix(t *testing.T) {
	for _, epoch := range someEpochs() {
		x := withValidators(103)
		before := look.Seed(x, epoch, 1)
		for k := range 8 {
			y := x
			y.Mixes[k][31] ^= 128
			if changed := look.Seed(y, epoch, 1) != before; changed != (uint64(k) == (epoch%8+6)%8) {
				t.Errorf("Seed of epoch %d, the mix %d being another: changed %v", epoch, k, changed)
			}
		}
	}
}

// TestSeedTakesNothingElse of the state.
func TestSeedTakesNothingElse(t *testing.T) {
	x := withValidators(103, members(5, 32)...)
	y := api.State{Mixes: x.Mixes, Slot: 7}
	for _, epoch := range someEpochs() {
		if look.Seed(x, epoch, 7) != look.Seed(y, epoch, 7) {
			t.Errorf("Seed of epoch %d hangs on more than the mixes", epoch)
		}
	}
}

// TestSeedTakesTheLowestBits of a kind alone.
func TestSeedTakesTheLowestBits(t *testing.T) {
	x := withValidators(103)
	for _, kind := range []int{0, 1, 7, 1 << 31, 1<<32 - 1} {
		for _, high := range []int{1 << 32, 3 << 32, -1 << 32, -1 << 63} {
			if look.Seed(x, 5, kind) != look.Seed(x, 5, kind+high) {
				t.Errorf("Seed of the kinds %d and %d: not the same", kind, kind+high)
			}
		}
		for bit := range 32 {
			if look.Seed(x, 5, kind) == look.Seed(x, 5, kind^1<<bit) {
				t.Errorf("Seed of the kinds %d and %d: the same", kind, kind^1<<bit)
			}
		}
	}
}

// What is handed in stays, and what is answered is new memory.

// whole tells all of a state's lists, their spare room too.
func whole(x *api.State) []byte {
	var b []byte
	v := reflect.ValueOf(x).Elem()
	for i := range v.NumField() {
		f := v.Field(i)
		if f.Kind() == reflect.Slice {
			f = f.Slice3(0, f.Cap(), f.Cap())
		}
		b = fmt.Append(b, f.Interface())
	}
	return b
}

// askAll calls all functions, and answers what they answer.
func askAll(x api.State, who []uint64) string {
	var b []byte
	for _, n := range []uint64{0, 1, 24, 25, 26, 95, 102, far} {
		reward, err := look.Reward(x, n)
		b = fmt.Append(b, look.Actives(x, n), reward, err)
		root, err := look.RootAt(x, n)
		b = fmt.Append(b, root, err, look.Seed(x, n, int(n)))
	}
	return string(fmt.Append(b, look.Total(x, who), look.Churn(x), look.Leak(x)))
}

func TestWhatIsHandedInStays(t *testing.T) {
	r := rand.New(rand.NewPCG(13, 6))
	for _, n := range []int{0, 1, 2, 5, 100} {
		x := withValidators(103, mixed(n, 25, r)...)
		all := []uint64{3, 1, 1, far, 0, 1 << 32, 77, 78, 79}
		who := all[1:6]
		before, allBefore := whole(&x), slices.Clone(all)
		one, two := askAll(x, who), askAll(x, who)
		if !bytes.Equal(whole(&x), before) {
			t.Errorf("%d validators: the state was changed, or its room", n)
		}
		if !slices.Equal(all, allBefore) {
			t.Errorf("%d validators: who was changed, or its room", n)
		}
		if one != two {
			t.Errorf("%d validators: asked again, other answers", n)
		}
	}
}

// TestActivesAreNewMemory: what the caller does with an answer, its room too, changes neither the state nor another answer.
func TestActivesAreNewMemory(t *testing.T) {
	for _, n := range []int{0, 1, 2, 5, 100} {
		x := withValidators(103, members(n, 32)...)
		before := whole(&x)
		first, second := look.Actives(x, 25), look.Actives(x, 25)
		want := slices.Clone(second)
		all := first[:cap(first)]
		for i := range all {
			all[i] = 1 << 40
		}
		_ = append(first, 7)
		if !bytes.Equal(whole(&x), before) || !slices.Equal(second, want) {
			t.Errorf("Actives of %d share memory", n)
		}
		wantActives(t, x, 25, want...)
		// Nor is anything kept of the state.
		for i := range x.Validators {
			x.Validators[i].Exit = 0
		}
		if !slices.Equal(second, want) {
			t.Errorf("Actives of %d hang on the state later on", n)
		}
		wantActives(t, x, 25)
	}
}

// TestRoomIsNoLength: validators behind the end of the list aren't there.
func TestRoomIsNoLength(t *testing.T) {
	x := withValidators(103, members(100, 32)...)
	x.Validators, x.Balances, x.Previous, x.Current, x.Scores = x.Validators[:2], x.Balances[:2], x.Previous[:2], x.Current[:2], x.Scores[:2]
	wantActives(t, x, 25, 0, 1)
	wantTotal(t, x, []uint64{1, 2, 3}, 32*gwei)
	wantChurn(t, x, 2)
	wantReward(t, x, 1, 32*252982)
	wantNoReward(t, x, 2)
	wantTotal(t, x, []uint64{0, 1, 0}[:1], 32*gwei)
}

// Nothing is kept from call to call, and calls side by side don't meet.
func TestCallsSideBySide(t *testing.T) {
	r := rand.New(rand.NewPCG(13, 7))
	states := make([]api.State, 8)
	wants := make([]string, len(states))
	for i := range states {
		states[i] = withValidators(100+uint64(i), mixed(10*i, 25, r)...)
		wants[i] = askAll(states[i], []uint64{0, 5})
	}
	var wait sync.WaitGroup
	for i := range 4 * len(states) {
		wait.Go(func() {
			if got := askAll(states[i%8], []uint64{0, 5}); got != wants[i%8] {
				t.Errorf("side by side the state %d tells something else", i%8)
			}
		})
	}
	wait.Wait()
}
