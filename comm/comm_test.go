package comm_test

import (
	"bytes"
	"crypto/sha256"
	"encoding/binary"
	"fmt"
	"math/big"
	"math/rand/v2"
	"reflect"
	"slices"
	"sync"
	"testing"

	"pharos/api"
	"pharos/comm"
	"pharos/state"
)

const (
	far       = 1<<64 - 1
	lastEpoch = 1<<62 - 1 // of a slot
	lastSlot  = 1<<40 - 1 // of a right state
	gwei      = 1000000000
)

// States. All of them are right ones, which mustRight holds.

// room for so many, and some spare room, so that what writes there is seen.
func room[T any](n int) []T { return make([]T, n, n+3) }

// rootOf a number: another root for each.
func rootOf(what string, v int) api.Root { return sha256.Sum256(fmt.Append(nil, what, v)) }

// withValidators is a state at a slot with these validators; its roots and mixes differ from each other.
func withValidators(slot uint64, validators ...api.Validator) api.State {
	n := len(validators)
	x := api.State{
		Genesis: 5, GenesisRoot: rootOf("genesis", 0), Slot: slot, Deposits: 9,
		Validators: room[api.Validator](n), Balances: room[uint64](n),
		Previous: room[uint8](n), Current: room[uint8](n), Scores: room[uint64](n),
		History: room[api.Root](2), Votes: room[api.Eth1](1),
	}
	copy(x.Validators, validators)
	for i := range n {
		x.Balances[i], x.Scores[i], x.Previous[i], x.Current[i] = uint64(17*gwei+i), uint64(i+4), uint8(i), uint8(i+1)
	}
	for i := range 8 {
		x.BlockRoots[i], x.StateRoots[i], x.Mixes[i] = rootOf("block", i), rootOf("state", i), rootOf("mix", i)
		x.Slashings[i] = uint64(i) * gwei
	}
	return x
}

// member is active from an epoch on till another.
func member(activation, exit uint64) api.Validator {
	return api.Validator{Effective: 32 * gwei, Activation: activation, Exit: exit, Withdrawable: far}
}

// members: so many that are active always.
func members(n int) []api.Validator { return slices.Repeat([]api.Validator{member(0, far)}, n) }

// mixed are so many validators, some active in the epochs around this one, and some not; neither balances nor slashings matter.
func mixed(n int, epoch uint64, r *rand.Rand) []api.Validator {
	near := func() uint64 {
		if r.IntN(4) == 0 {
			return far
		}
		return epoch + uint64(r.IntN(7)) - uint64(min(3, epoch))
	}
	all := make([]api.Validator, n)
	for i := range all {
		all[i] = api.Validator{
			Effective: uint64(r.IntN(33)) * gwei, Slashed: r.IntN(2) == 0,
			Eligible: near(), Activation: near(), Exit: near(), Withdrawable: near(),
		}
		if r.IntN(2) == 0 {
			all[i].Activation = 0
		}
	}
	return all
}

func mustRight(t *testing.T, x api.State) {
	t.Helper()
	if !state.Right(x) {
		t.Fatalf("the test's own state at slot %d with %d validators isn't right", x.Slot, len(x.Validators))
	}
}

// bitsOf a text: 1 is set.
func bitsOf(text string) []bool {
	var l []bool
	for _, c := range text {
		l = append(l, c == '1')
	}
	return l
}

// same bit, so many times.
func same(bit bool, n int) []bool { return slices.Repeat([]bool{bit}, n) }

// Second readings of the chapters, in numbers that can't wrap and with the library's hash.

func number(n uint64) *big.Int { return new(big.Int).SetUint64(n) }

func plainActives(x api.State, epoch uint64) []uint64 {
	var all []uint64
	for i, v := range x.Validators {
		if number(v.Activation).Cmp(number(epoch)) <= 0 && number(v.Exit).Cmp(number(epoch)) > 0 {
			all = append(all, uint64(i))
		}
	}
	return all
}

// plainCount: a second committee needs two for each of the four slots once more.
func plainCount(x api.State, epoch uint64) uint64 {
	if len(plainActives(x, epoch)) < 16 {
		return 1
	}
	return 2
}

func plainSeed(x api.State, epoch uint64) []byte {
	b := binary.LittleEndian.AppendUint64([]byte{1, 0, 0, 0}, epoch)
	mix := x.Mixes[(epoch%8+6)%8]
	hash := sha256.Sum256(append(b, mix[:]...))
	return hash[:]
}

func plainRound(i, n uint64, seed []byte, r int) uint64 {
	front := append(slices.Clone(seed), byte(r))
	hash := sha256.Sum256(front)
	slices.Reverse(hash[:8])
	pivot := new(big.Int).SetBytes(hash[:8])
	flip := pivot.Sub(pivot, number(i)).Mod(pivot, number(n)).Uint64()
	place := max(i, flip)
	source := sha256.Sum256(binary.LittleEndian.AppendUint32(front, uint32(place/256)))
	if source[place%256/8]&(1<<(place%8)) != 0 {
		return flip
	}
	return i
}

// plainCommittee goes through all places, and asks of each whether it is of the piece.
func plainCommittee(x api.State, slot, index uint64) []uint64 {
	epoch := slot / 4
	actives, seed := plainActives(x, epoch), plainSeed(x, epoch)
	n, count := uint64(len(actives)), plainCount(x, epoch)
	pieces := number(4 * count)
	k := new(big.Int).Mod(number(slot), number(4))
	k.Mul(k, number(count)).Add(k, number(index))
	from := new(big.Int).Mul(number(n), k)
	from.Div(from, pieces)
	to := new(big.Int).Mul(number(n), k.Add(k, number(1)))
	to.Div(to, pieces)
	var l []uint64
	for i := range n {
		if number(i).Cmp(from) < 0 || number(i).Cmp(to) >= 0 {
			continue
		}
		place := i
		for r := range 6 {
			place = plainRound(place, n, seed, r)
		}
		l = append(l, actives[place])
	}
	return l
}

// plainWho asks of each validator, from the first on, whether it is meant: so they rise by themselves.
func plainWho(x api.State, slot, index uint64, bits []bool) []uint64 {
	committee := plainCommittee(x, slot, index)
	var who []uint64
	for v := range x.Validators {
		at := slices.Index(committee, uint64(v))
		if at >= 0 && bits[at] {
			who = append(who, uint64(v))
		}
	}
	return who
}

// What is wanted.

func wantCount(t *testing.T, x api.State, epoch, want uint64) {
	t.Helper()
	mustRight(t, x)
	if got := comm.Count(x, epoch); got != want {
		t.Errorf("Count of %d validators in epoch %d: %d; want %d", len(x.Validators), epoch, got, want)
	}
}

func wantCommittee(t *testing.T, x api.State, slot, index uint64, want ...uint64) {
	t.Helper()
	mustRight(t, x)
	if got, err := comm.Of(x, slot, index); !slices.Equal(got, want) || err != api.OK {
		t.Errorf("Of slot %d, index %d, %d validators: %d, error %d; want %d", slot, index, len(x.Validators), got, err, want)
	}
}

// wantNone: there is no such committee; nor for Who, whatever the bits.
func wantNone(t *testing.T, x api.State, slot, index uint64) {
	t.Helper()
	mustRight(t, x)
	if got, err := comm.Of(x, slot, index); len(got) != 0 || err != api.ErrArg {
		t.Errorf("Of slot %d, index %d, %d validators: %d, error %d; want nobody, ErrArg", slot, index, len(x.Validators), got, err)
	}
	for _, bits := range [][]bool{nil, {}, {true}, {true, true}, same(true, 64), same(false, 9)} {
		wantNoWho(t, x, slot, index, bits, api.BadIndex)
	}
}

func wantWho(t *testing.T, x api.State, slot, index uint64, bits []bool, want ...uint64) {
	t.Helper()
	mustRight(t, x)
	if got, err := comm.Who(x, slot, index, bits); !slices.Equal(got, want) || err != api.OK {
		t.Errorf("Who of slot %d, index %d, %d validators, by %v: %d, error %d; want %d", slot, index, len(x.Validators), bits, got, err, want)
	}
}

func wantNoWho(t *testing.T, x api.State, slot, index uint64, bits []bool, want api.Errno) {
	t.Helper()
	mustRight(t, x)
	if got, err := comm.Who(x, slot, index, bits); len(got) != 0 || err != want {
		t.Errorf("Who of slot %d, index %d, %d validators, by %d bits: %d, error %d; want nobody, error %d", slot, index, len(x.Validators), len(bits), got, err, want)
	}
}

// mustOf is a committee that there is.
func mustOf(t *testing.T, x api.State, slot, index uint64) []uint64 {
	t.Helper()
	mustRight(t, x)
	l, err := comm.Of(x, slot, index)
	if err != api.OK {
		t.Fatalf("Of slot %d, index %d, %d validators: error %d", slot, index, len(x.Validators), err)
	}
	return l
}

// someEpochs: the first ones, those around the state's own 25, and the last one that slots have.
func someEpochs() []uint64 {
	return []uint64{0, 1, 2, 3, 7, 8, 23, 24, 25, 26, 27, 100, 1 << 32, 1 << 40, 1 << 41, 1<<61 - 1, lastEpoch - 1, lastEpoch}
}

// someNumbers of actives: below, at and above what Count turns at, and such that the pieces don't divide.
func someNumbers() []int {
	return []int{0, 1, 2, 3, 4, 5, 6, 7, 8, 9, 11, 12, 13, 15, 16, 17, 18, 23, 24, 25, 31, 32, 33, 63, 64, 65, 100}
}

// The chapter's examples.

func TestExamples(t *testing.T) {
	three := withValidators(0, members(3)...)
	wantCount(t, three, 0, 1)
	for slot, n := range []int{0, 1, 1, 1} {
		if l := mustOf(t, three, uint64(slot), 0); len(l) != n {
			t.Errorf("slot %d of 3 actives: %d; want %d members", slot, l, n)
		}
	}
	sixteen := withValidators(0, members(16)...)
	wantCount(t, sixteen, 0, 2)
	for slot := range uint64(4) {
		for index := range uint64(2) {
			if l := mustOf(t, sixteen, slot, index); len(l) != 2 {
				t.Errorf("slot %d, index %d of 16 actives: %d; want 2 members", slot, index, l)
			}
		}
		wantNone(t, sixteen, slot, 2)
		wantNone(t, three, slot, 2)
	}
}

// P14.1

func TestCount(t *testing.T) {
	for n, want := range map[int]uint64{
		0: 1, 1: 1, 2: 1, 3: 1, 4: 1, 7: 1, 8: 1, 9: 1, 12: 1, 14: 1, 15: 1,
		16: 2, 17: 2, 18: 2, 23: 2, 24: 2, 25: 2, 31: 2, 32: 2, 33: 2, 63: 2, 64: 2, 65: 2, 1000: 2, 65535: 2, 65536: 2,
	} {
		x := withValidators(103, members(n)...)
		for _, epoch := range []uint64{0, 24, 25, 26, lastEpoch, far - 1} {
			wantCount(t, x, epoch, want)
		}
		// In the epoch that never comes nobody is active.
		wantCount(t, x, far, 1)
	}
	wantCount(t, api.State{}, 0, 1)
	wantCount(t, api.State{}, far, 1)
}

// TestCountOfTheEpoch: it is of the one that is asked for, not of the state's own, and counts its actives alone.
func TestCountOfTheEpoch(t *testing.T) {
	crowd := append(members(15), member(5, 7))
	crowd = append(crowd, slices.Repeat([]api.Validator{member(9, 11), member(far, far), member(6, 6)}, 30)...)
	for _, slot := range []uint64{0, 20, 27, 28, 40, lastSlot} {
		x := withValidators(slot, crowd...)
		for epoch, want := range []uint64{1, 1, 1, 1, 1, 2, 2, 1, 1, 2, 2, 1, 1} {
			wantCount(t, x, uint64(epoch), want)
		}
	}
}

// TestCountOfPoorAndSlashed: neither balances nor slashings matter.
func TestCountOfPoorAndSlashed(t *testing.T) {
	crowd := slices.Repeat([]api.Validator{{Slashed: true, Exit: far}}, 16)
	x := withValidators(103, crowd...)
	clear(x.Balances)
	wantCount(t, x, 25, 2)
	x = withValidators(103, crowd[:15]...)
	wantCount(t, x, 25, 1)
}

func TestCountByChance(t *testing.T) {
	r := rand.New(rand.NewPCG(14, 1))
	seen := map[uint64]int{}
	for range 300 {
		x := withValidators(100+uint64(r.IntN(8)), mixed(r.IntN(60), 25, r)...)
		for _, epoch := range []uint64{0, 22, 24, 25, 26, 28, 100, far} {
			want := plainCount(x, epoch)
			seen[want]++
			wantCount(t, x, epoch, want)
		}
	}
	if len(seen) != 2 {
		t.Errorf("chance made %v", seen)
	}
}

// P14.2

// TestSizes: by the cuts, written out; an epoch's slots and their indices, one behind the other.
func TestSizes(t *testing.T) {
	for n, want := range map[int][]int{
		0:   {0, 0, 0, 0},
		1:   {0, 0, 0, 1},
		2:   {0, 1, 0, 1},
		3:   {0, 1, 1, 1},
		4:   {1, 1, 1, 1},
		5:   {1, 1, 1, 2},
		6:   {1, 2, 1, 2},
		7:   {1, 2, 2, 2},
		8:   {2, 2, 2, 2},
		9:   {2, 2, 2, 3},
		15:  {3, 4, 4, 4},
		16:  {2, 2, 2, 2, 2, 2, 2, 2},
		17:  {2, 2, 2, 2, 2, 2, 2, 3},
		18:  {2, 2, 2, 3, 2, 2, 2, 3},
		19:  {2, 2, 3, 2, 2, 3, 2, 3},
		23:  {2, 3, 3, 3, 3, 3, 3, 3},
		24:  {3, 3, 3, 3, 3, 3, 3, 3},
		100: {12, 13, 12, 13, 12, 13, 12, 13},
	} {
		x := withValidators(103, members(n)...)
		count := uint64(len(want) / 4)
		for _, epoch := range someEpochs() {
			for k, size := range want {
				slot, index := 4*epoch+uint64(k)/count, uint64(k)%count
				if l := mustOf(t, x, slot, index); len(l) != size {
					t.Errorf("slot %d, index %d of %d actives: %d; want %d members", slot, index, n, l, size)
				}
			}
		}
	}
}

// TestOfAllSlots: of all four remainders, in epochs ahead of the state's own and behind it, up to the last slot.
func TestOfAllSlots(t *testing.T) {
	for _, n := range someNumbers() {
		x := withValidators(103, members(n)...)
		for _, epoch := range someEpochs() {
			for slot := 4 * epoch; ; slot++ {
				for index := range plainCount(x, epoch) {
					wantCommittee(t, x, slot, index, plainCommittee(x, slot, index)...)
				}
				if slot%4 == 3 {
					break
				}
			}
		}
	}
}

// TestOfByChance: validators that are active in one epoch and not in another.
func TestOfByChance(t *testing.T) {
	r := rand.New(rand.NewPCG(14, 2))
	for range 150 {
		x := withValidators(100+uint64(r.IntN(8)), mixed(r.IntN(70), 25, r)...)
		for slot := uint64(88); slot < 116; slot += 1 + uint64(r.IntN(4)) {
			count := plainCount(x, slot/4)
			for index := range count {
				wantCommittee(t, x, slot, index, plainCommittee(x, slot, index)...)
			}
			wantNone(t, x, slot, count)
		}
	}
}

// TestOfWhoIsActive: a crowd of which the actives aren't the first ones.
func TestOfWhoIsActive(t *testing.T) {
	x := withValidators(103, member(26, far), member(25, 26), member(far, far), member(0, 25))
	for epoch, want := range map[uint64]uint64{24: 3, 25: 1, 26: 0, 27: 0, lastEpoch: 0} {
		for late := range uint64(3) {
			wantCommittee(t, x, 4*epoch+late, 0)
		}
		wantCommittee(t, x, 4*epoch+3, 0, want)
	}
}

func TestOfNoSuchIndex(t *testing.T) {
	for _, n := range someNumbers() {
		x := withValidators(103, members(n)...)
		for _, slot := range []uint64{0, 1, 2, 3, 4, 99, 100, 103, 104, 1 << 40, far - 3, far - 2, far - 1, far} {
			count := plainCount(x, slot/4)
			mustOf(t, x, slot, count-1)
			for _, index := range []uint64{count, count + 1, 3, 4, 8, 1 << 16, 1 << 32, 1<<32 + 1, 1 << 62, 1<<63 - 1, 1 << 63, far - 3, far - 1, far} {
				wantNone(t, x, slot, index)
			}
		}
	}
	wantNone(t, api.State{}, 0, 1)
	wantNone(t, api.State{}, far, far)
	wantCommittee(t, api.State{}, far, 0)
}

// TestOfCountOfTheSlot: how many there are is told by the slot's epoch, not by the state's own, nor by the slot as an epoch.
func TestOfCountOfTheSlot(t *testing.T) {
	crowd := append(members(15), member(5, 6))
	for _, slot := range []uint64{0, 5, 20, 24, 103} {
		x := withValidators(slot, crowd...)
		for late := range uint64(4) {
			mustOf(t, x, 20+late, 1)
			wantNone(t, x, 20+late, 2)
			wantNone(t, x, 16+late, 1)
			wantNone(t, x, 24+late, 1)
			wantNone(t, x, 4+late, 1)
		}
	}
}

// TestOfTakesOneMix: another mix makes other committees, but that of the epoch's place alone; and nothing else of the state does.
func TestOfTakesOneMix(t *testing.T) {
	x := withValidators(103, members(64)...)
	for _, epoch := range someEpochs() {
		before := mustOf(t, x, 4*epoch+1, 1)
		for k := range 8 {
			y := x
			y.Mixes[k][31] ^= 128
			changed := !slices.Equal(mustOf(t, y, 4*epoch+1, 1), before)
			if changed != (uint64(k) == (epoch%8+6)%8) {
				t.Errorf("the committee of epoch %d, the mix %d being another: changed %v", epoch, k, changed)
			}
		}
		y := withValidators(7, members(64)...)
		for i := range y.Validators {
			y.Validators[i].Effective, y.Validators[i].Slashed, y.Validators[i].Withdrawable = 0, true, 0
			y.Balances[i] = 0
		}
		wantCommittee(t, y, 4*epoch+1, 1, before...)
	}
}

// P14.3

func TestWhoByAllBits(t *testing.T) {
	// Committees of 3 and 4 members; all that bits may say of them.
	x := withValidators(103, members(15)...)
	for slot := uint64(96); slot < 108; slot++ {
		size := len(plainCommittee(x, slot, 0))
		for mask := range 1 << size {
			bits := make([]bool, size)
			for i := range bits {
				bits[i] = mask>>i&1 == 1
			}
			wantWho(t, x, slot, 0, bits, plainWho(x, slot, 0, bits)...)
		}
	}
}

// TestWhoIsOfItsBit: one bit alone means the member at its place in the committee's own order.
func TestWhoIsOfItsBit(t *testing.T) {
	x := withValidators(103, members(200)...)
	for slot := uint64(100); slot < 104; slot++ {
		for index := range uint64(2) {
			committee := plainCommittee(x, slot, index)
			if slices.IsSorted(committee) {
				t.Errorf("the committee %d is in order, so that it tells nothing", committee)
			}
			for i, member := range committee {
				bits := same(false, len(committee))
				bits[i] = true
				wantWho(t, x, slot, index, bits, member)
			}
		}
	}
}

func TestWhoAllAndNone(t *testing.T) {
	for _, n := range someNumbers() {
		x := withValidators(103, members(n)...)
		for _, slot := range []uint64{0, 3, 100, 101, 102, 103, far - 3, far - 2, far - 1, far} {
			for index := range plainCount(x, slot/4) {
				committee := plainCommittee(x, slot, index)
				wantWho(t, x, slot, index, same(false, len(committee)))
				slices.Sort(committee)
				wantWho(t, x, slot, index, same(true, len(committee)), committee...)
			}
		}
	}
}

func TestWhoWithOtherLengths(t *testing.T) {
	for _, n := range someNumbers() {
		x := withValidators(103, members(n)...)
		for _, slot := range []uint64{0, 100, 101, 102, 103, far} {
			for index := range plainCount(x, slot/4) {
				size := len(plainCommittee(x, slot, index))
				for _, length := range []int{0, 1, 2, size - 1, size + 1, size + 2, 2 * size, size + 8, 64, 65, 1000} {
					if length < 0 || length == size {
						continue
					}
					wantNoWho(t, x, slot, index, same(true, length), api.BadBits)
					wantNoWho(t, x, slot, index, same(false, length), api.BadBits)
				}
			}
		}
	}
}

// TestWhoOfNobody: a committee without members has no bits, nil or empty, and one with some needs them.
func TestWhoOfNobody(t *testing.T) {
	none := [][]bool{nil, {}, make([]bool, 0, 5)}
	x := withValidators(103, members(3)...)
	for _, bits := range none {
		wantWho(t, x, 100, 0, bits)
		wantWho(t, api.State{}, 2, 0, bits)
		for slot := uint64(101); slot < 104; slot++ {
			wantNoWho(t, x, slot, 0, bits, api.BadBits)
		}
	}
	for _, bit := range []bool{false, true} {
		wantNoWho(t, x, 100, 0, []bool{bit}, api.BadBits)
		wantNoWho(t, api.State{}, 2, 0, []bool{bit}, api.BadBits)
	}
}

// TestWhoRoomIsNoLength: bits behind the end of a list aren't there.
func TestWhoRoomIsNoLength(t *testing.T) {
	x := withValidators(103, members(16)...)
	bits := []bool{true, true, true, true}
	wantNoWho(t, x, 100, 1, bits[:1], api.BadBits)
	wantNoWho(t, x, 100, 1, bits[:3], api.BadBits)
	committee := plainCommittee(x, 100, 1)
	slices.Sort(committee)
	wantWho(t, x, 100, 1, bits[:2], committee...)
}

// TestWhoIndexFirst: where both are wrong, the index counts, as it is named first.
func TestWhoIndexFirst(t *testing.T) {
	x := withValidators(103, members(16)...)
	wantNoWho(t, x, 100, 2, same(true, 3), api.BadIndex)
	wantNoWho(t, x, 100, 1, same(true, 3), api.BadBits)
	wantNoWho(t, x, 100, far, nil, api.BadIndex)
}

func TestWhoByChance(t *testing.T) {
	r := rand.New(rand.NewPCG(14, 3))
	for range 150 {
		x := withValidators(100+uint64(r.IntN(8)), mixed(r.IntN(120), 25, r)...)
		for range 6 {
			slot := 88 + uint64(r.IntN(28))
			index := uint64(r.IntN(int(plainCount(x, slot/4))))
			bits := make([]bool, len(plainCommittee(x, slot, index)))
			for i := range bits {
				bits[i] = r.IntN(2) == 0
			}
			wantWho(t, x, slot, index, bits, plainWho(x, slot, index, bits)...)
		}
	}
}

// P14.4

// wantEachOnce: all committees of an epoch together are its actives, each of them once.
func wantEachOnce(t *testing.T, x api.State, epoch uint64) {
	t.Helper()
	var all []uint64
	for late := range uint64(4) {
		for index := range comm.Count(x, epoch) {
			all = append(all, mustOf(t, x, 4*epoch+late, index)...)
		}
	}
	slices.Sort(all)
	if want := plainActives(x, epoch); !slices.Equal(all, want) {
		t.Errorf("the committees of epoch %d together: %d; want %d", epoch, all, want)
	}
}

func TestEachActiveOnce(t *testing.T) {
	for n := range 70 {
		x := withValidators(103, members(n)...)
		for _, epoch := range someEpochs() {
			wantEachOnce(t, x, epoch)
		}
	}
	r := rand.New(rand.NewPCG(14, 4))
	for range 100 {
		x := withValidators(100+uint64(r.IntN(8)), mixed(r.IntN(150), 25, r)...)
		for epoch := uint64(21); epoch < 31; epoch++ {
			wantEachOnce(t, x, epoch)
		}
	}
	for _, n := range []int{1000, 1001, 65535, 65536} {
		wantEachOnce(t, withValidators(103, members(n)...), 25)
	}
}

// What is handed in stays, and what is answered is new memory.

// whole tells all of a state's lists, their spare room too.
func whole(x *api.State) []byte {
	var b []byte
	v := reflect.ValueOf(x).Elem()
	for i := range v.NumField() {
		f := v.Field(i)
		if f.Kind() == reflect.Slice {
			f = f.Slice3(0, f.Cap(), f.Cap())
		}
		b = fmt.Append(b, f.Interface())
	}
	return b
}

// askAll calls all functions, and answers what they answer.
func askAll(x api.State) string {
	var b []byte
	for _, slot := range []uint64{0, 1, 97, 100, 101, 102, 103, 104, far} {
		b = fmt.Append(b, comm.Count(x, slot/4))
		for _, index := range []uint64{0, 1, 2, far} {
			l, err := comm.Of(x, slot, index)
			b = fmt.Append(b, len(l), l, err)
			for _, bits := range [][]bool{nil, same(true, len(l)), same(false, 3)} {
				who, err := comm.Who(x, slot, index, bits)
				b = fmt.Append(b, len(who), who, err)
			}
		}
	}
	return string(b)
}

func TestWhatIsHandedInStays(t *testing.T) {
	r := rand.New(rand.NewPCG(14, 5))
	for _, n := range []int{0, 1, 2, 5, 16, 100} {
		for _, validators := range [][]api.Validator{members(n), mixed(n, 25, r)} {
			x := withValidators(103, validators...)
			before := whole(&x)
			one, two := askAll(x), askAll(x)
			if !bytes.Equal(whole(&x), before) {
				t.Errorf("%d validators: the state was changed, or its room", n)
			}
			if one != two {
				t.Errorf("%d validators: asked again, other answers", n)
			}
		}
	}
}

func TestBitsStay(t *testing.T) {
	x := withValidators(103, members(40)...)
	for slot := uint64(100); slot < 104; slot++ {
		for index := range uint64(3) {
			for length := range 8 {
				all := bitsOf("101101110")
				before := slices.Clone(all)
				comm.Who(x, slot, index, all[1:1+length])
				if !slices.Equal(all, before) {
					t.Errorf("Who of slot %d, index %d, changed the bits, or their room", slot, index)
				}
			}
		}
	}
}

// spoil what was answered, its room too, as a caller may.
func spoil(l []uint64) {
	_ = append(l, 7)
	all := l[:cap(l)]
	for i := range all {
		all[i] = 1 << 40
	}
}

// TestAnswersAreNewMemory: what the caller does with an answer changes neither the state nor another answer.
func TestAnswersAreNewMemory(t *testing.T) {
	for _, n := range []int{0, 1, 2, 3, 5, 16, 17, 100} {
		x := withValidators(103, members(n)...)
		before := whole(&x)
		for slot := uint64(100); slot < 104; slot++ {
			for index := range comm.Count(x, 25) {
				want := plainCommittee(x, slot, index)
				bits := same(true, len(want))
				first, second := mustOf(t, x, slot, index), mustOf(t, x, slot, index)
				who, _ := comm.Who(x, slot, index, bits)
				other, _ := comm.Who(x, slot, index, bits)
				spoil(first)
				spoil(who)
				if !slices.Equal(second, want) {
					t.Errorf("Of %d validators: two answers share memory", n)
				}
				wantCommittee(t, x, slot, index, want...)
				slices.Sort(want)
				if !slices.Equal(other, want) {
					t.Errorf("Who of %d validators: two answers share memory", n)
				}
				wantWho(t, x, slot, index, bits, want...)
				clear(bits)
				if !slices.Equal(other, want) {
					t.Errorf("Who of %d validators hangs on the bits later on", n)
				}
			}
		}
		if !bytes.Equal(whole(&x), before) {
			t.Errorf("answers of %d validators share memory with the state", n)
		}
	}
}

// TestNothingIsKept: a state that was changed by its owner tells what it is now, and what it told before stays.
func TestNothingIsKept(t *testing.T) {
	x := withValidators(103, members(40)...)
	before := mustOf(t, x, 101, 1)
	kept := slices.Clone(before)
	for i := range x.Validators {
		x.Validators[i].Exit = uint64(25 + i%2)
	}
	x.Mixes[7] = rootOf("another", 0)
	if !slices.Equal(before, kept) {
		t.Errorf("an answer hangs on the state later on")
	}
	wantCount(t, x, 25, 2)
	wantCommittee(t, x, 101, 1, plainCommittee(x, 101, 1)...)
	wantCount(t, x, 26, 1)
	wantCommittee(t, x, 105, 0)
}

// TestRoomIsNoValidator: those behind the end of the registry aren't there.
func TestRoomIsNoValidator(t *testing.T) {
	x := withValidators(103, members(100)...)
	x.Validators, x.Balances, x.Previous, x.Current, x.Scores = x.Validators[:15], x.Balances[:15], x.Previous[:15], x.Current[:15], x.Scores[:15]
	wantCount(t, x, 25, 1)
	wantEachOnce(t, x, 25)
}

// Nothing is kept from call to call, and calls side by side don't meet.
func TestCallsSideBySide(t *testing.T) {
	r := rand.New(rand.NewPCG(14, 6))
	states := make([]api.State, 8)
	wants := make([]string, len(states))
	for i := range states {
		states[i] = withValidators(100+uint64(i), mixed(10*i, 25, r)...)
		wants[i] = askAll(states[i])
	}
	var wait sync.WaitGroup
	for i := range 4 * len(states) {
		wait.Go(func() {
			if got := askAll(states[i%8]); got != wants[i%8] {
				t.Errorf("side by side the state %d tells something else", i%8)
			}
		})
	}
	wait.Wait()
}
