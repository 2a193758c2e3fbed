package pick_test

import (
	"bytes"
	"crypto/sha256"
	"encoding/binary"
	"fmt"
	"math/big"
	"math/rand/v2"
	"reflect"
	"slices"
	"sync"
	"testing"

	"pharos/api"
	"pharos/pick"
	"pharos/state"
)

const (
	far      = 1<<64 - 1
	lastSlot = 1<<40 - 1 // of a right state
	gwei     = 1000000000
	full     = 32 // Increments
)

// States. All of them are right ones, which mustRight holds.

// room for so many, and some spare room, so that what writes there is seen.
func room[T any](n int) []T { return make([]T, n, n+3) }

// rootOf a number: another root for each.
func rootOf(what string, v int) api.Root { return sha256.Sum256(fmt.Append(nil, what, v)) }

// keyOf a validator: another key for each.
func keyOf(v int) api.Key {
	var key api.Key
	front, back := rootOf("key", v), rootOf("key's end", v)
	copy(key[:], front[:])
	copy(key[32:], back[:])
	return key
}

// withValidators is a state at a slot with these validators, to whom it gives keys; its roots and mixes differ from each other.
func withValidators(slot uint64, validators ...api.Validator) api.State {
	n := len(validators)
	x := api.State{
		Genesis: 5, GenesisRoot: rootOf("genesis", 0), Slot: slot, Deposits: 9,
		Validators: room[api.Validator](n), Balances: room[uint64](n),
		Previous: room[uint8](n), Current: room[uint8](n), Scores: room[uint64](n),
		History: room[api.Root](2), Votes: room[api.Eth1](1),
	}
	copy(x.Validators, validators)
	for i := range n {
		x.Validators[i].Key = keyOf(i)
		x.Balances[i], x.Scores[i], x.Previous[i], x.Current[i] = uint64(17*gwei+i), uint64(i+4), uint8(i), uint8(i+1)
	}
	for i := range 8 {
		x.BlockRoots[i], x.StateRoots[i], x.Mixes[i] = rootOf("block", i), rootOf("state", i), rootOf("mix", i)
		x.Slashings[i] = uint64(i) * gwei
	}
	return x
}

// member has so many Increments, and is active from an epoch on till another.
func member(increments, activation, exit uint64) api.Validator {
	return api.Validator{Effective: increments * gwei, Activation: activation, Exit: exit, Withdrawable: far}
}

// members: so many that are active always, with so many Increments each.
func members(n int, increments uint64) []api.Validator {
	return slices.Repeat([]api.Validator{member(increments, 0, far)}, n)
}

// mixed are so many validators of all balances, some active in the epochs around this one, and some not.
func mixed(n int, epoch uint64, r *rand.Rand) []api.Validator {
	near := func() uint64 {
		if r.IntN(4) == 0 {
			return far
		}
		return epoch + uint64(r.IntN(7)) - uint64(min(3, epoch))
	}
	all := make([]api.Validator, n)
	for i := range all {
		all[i] = api.Validator{
			Effective: uint64(r.IntN(33)) * gwei, Slashed: r.IntN(2) == 0,
			Eligible: near(), Activation: near(), Exit: near(), Withdrawable: near(),
		}
		if r.IntN(2) == 0 {
			all[i].Activation = 0
		}
	}
	return all
}

func mustRight(t *testing.T, x api.State) {
	t.Helper()
	if !state.Right(x) {
		t.Fatalf("the test's own state at slot %d with %d validators isn't right", x.Slot, len(x.Validators))
	}
}

// Second readings of the chapters, in numbers that can't wrap and with the library's hash.

func number(n uint64) *big.Int { return new(big.Int).SetUint64(n) }

func plainActives(x api.State, epoch uint64) []uint64 {
	var all []uint64
	for i, v := range x.Validators {
		if number(v.Activation).Cmp(number(epoch)) <= 0 && number(v.Exit).Cmp(number(epoch)) > 0 {
			all = append(all, uint64(i))
		}
	}
	return all
}

func plainSeed(x api.State, epoch uint64, kind byte) []byte {
	b := binary.LittleEndian.AppendUint64([]byte{kind, 0, 0, 0}, epoch)
	mix := x.Mixes[(epoch%8+6)%8]
	hash := sha256.Sum256(append(b, mix[:]...))
	return hash[:]
}

func plainPlace(i, n uint64, seed []byte) uint64 {
	for r := range 6 {
		front := append(slices.Clone(seed), byte(r))
		hash := sha256.Sum256(front)
		slices.Reverse(hash[:8])
		pivot := new(big.Int).SetBytes(hash[:8])
		flip := pivot.Sub(pivot, number(i)).Mod(pivot, number(n)).Uint64()
		place := max(i, flip)
		source := sha256.Sum256(binary.LittleEndian.AppendUint32(front, uint32(place/256)))
		if source[place%256/8]&(1<<(place%8)) != 0 {
			i = flip
		}
	}
	return i
}

// try: who comes up, and with which lot.
type try struct {
	who uint64
	lot byte
}

// draws from actives with a seed, as the second reading has them.
type draws struct {
	actives []uint64
	seed    []byte
}

func proposerDraws(x api.State) draws {
	epoch := x.Slot / 4
	seed := sha256.Sum256(binary.LittleEndian.AppendUint64(plainSeed(x, epoch, 0), x.Slot))
	return draws{plainActives(x, epoch), seed[:]}
}

func syncDraws(x api.State) draws {
	epoch := x.Slot/4 + 1
	return draws{plainActives(x, epoch), plainSeed(x, epoch, 7)}
}

// lots of the tries that count and of some more. All are laid out, so that a try's number is its place there.
func (d draws) lots() []byte {
	var lots []byte
	for k := range uint64(10) {
		sum := sha256.Sum256(binary.LittleEndian.AppendUint64(slices.Clone(d.seed), k))
		lots = append(lots, sum[:]...)
	}
	return lots[:300]
}

// tries with these lots, from the first on.
func (d draws) tries() []try {
	tries := make([]try, 300)
	for i, lot := range d.lots() {
		tries[i] = try{d.who(i), lot}
	}
	return tries
}

func (d draws) who(i int) uint64 {
	n := uint64(len(d.actives))
	return d.actives[plainPlace(uint64(i)%n, n, d.seed)]
}

// taken are those who have enough for their lots: so many, if there are.
func (d draws) taken(x api.State, most int) []uint64 {
	if len(d.actives) == 0 {
		return nil
	}
	var taken []uint64
	for i, lot := range d.lots()[:256] {
		who := d.who(i)
		has := new(big.Int).Mul(number(x.Validators[who].Effective), number(255))
		asked := new(big.Int).Mul(number(32*gwei), number(uint64(lot)))
		if has.Cmp(asked) >= 0 {
			taken = append(taken, who)
		}
		if len(taken) == most {
			break
		}
	}
	return taken
}

// enough Increments for a lot, and no more.
func enough(lot byte) uint64 { return (32*uint64(lot) + 254) / 255 }

// What is wanted.

func wantProposer(t *testing.T, x api.State, want uint64) {
	t.Helper()
	mustRight(t, x)
	if got, err := pick.Proposer(x); got != want || err != api.OK {
		t.Errorf("Proposer of slot %d, %d validators: %d, error %d; want %d", x.Slot, len(x.Validators), got, err, want)
	}
}

func wantNoProposer(t *testing.T, x api.State) {
	t.Helper()
	mustRight(t, x)
	if got, err := pick.Proposer(x); got != 0 || err != api.ErrNone {
		t.Errorf("Proposer of slot %d, %d validators: %d, error %d; want 0, ErrNone", x.Slot, len(x.Validators), got, err)
	}
}

// wantSync, and the committee that is made of it.
func wantSync(t *testing.T, x api.State, want ...uint64) {
	t.Helper()
	mustRight(t, x)
	if got, err := pick.Sync(x); !slices.Equal(got, want) || err != api.OK {
		t.Errorf("Sync of slot %d, %d validators: %d, error %d; want %d", x.Slot, len(x.Validators), got, err, want)
	}
	if got, err := pick.Next(x); got != plainNext(x, want) || err != api.OK {
		t.Errorf("Next of slot %d, %d validators: another committee than the one of %d, or error %d", x.Slot, len(x.Validators), want, err)
	}
}

func wantNoSync(t *testing.T, x api.State) {
	t.Helper()
	mustRight(t, x)
	if got, err := pick.Sync(x); len(got) != 0 || err != api.ErrNone {
		t.Errorf("Sync of slot %d, %d validators: %d, error %d; want nobody, ErrNone", x.Slot, len(x.Validators), got, err)
	}
	if got, err := pick.Next(x); got != (api.Committee{}) || err != api.ErrNone {
		t.Errorf("Next of slot %d, %d validators: %x, error %d; want zeros, ErrNone", x.Slot, len(x.Validators), got, err)
	}
}

// wantPlain: what the second reading tells, of both.
func wantPlain(t *testing.T, x api.State) {
	t.Helper()
	if taken := proposerDraws(x).taken(x, 1); len(taken) > 0 {
		wantProposer(t, x, taken[0])
	} else {
		wantNoProposer(t, x)
	}
	if taken := syncDraws(x).taken(x, 8); len(taken) == 8 {
		wantSync(t, x, taken...)
	} else {
		wantNoSync(t, x)
	}
}

func plainSum(keys []api.Key) api.Key {
	var all []byte
	for _, key := range keys {
		all = append(all, key[:]...)
	}
	front := sha256.Sum256(all)
	back := sha256.Sum256(front[:])
	return api.Key(append(front[:], back[:16]...))
}

func plainNext(x api.State, who []uint64) api.Committee {
	var c api.Committee
	for i, v := range who {
		c.Keys[i] = x.Validators[v].Key
	}
	c.Sum = plainSum(c.Keys[:])
	return c
}

// someSlots of all remainders, in the first epochs, in those whose mixes come round again, and the greatest one.
func someSlots() []uint64 {
	return []uint64{0, 1, 2, 3, 4, 7, 24, 29, 30, 31, 32, 100, 101, 102, 103, 104, 1 << 32, lastSlot - 3, lastSlot - 2, lastSlot - 1, lastSlot}
}

// someNumbers of actives: few, so that tries come round; those where the lots' sums and the shuffle's sources change; many, so that some are never tried.
func someNumbers() []int {
	return []int{1, 2, 3, 4, 5, 7, 8, 9, 16, 31, 32, 33, 63, 64, 65, 100, 224, 255, 256, 257, 300, 1000}
}

// findSlot of a state for which something holds.
func findSlot(t *testing.T, validators []api.Validator, holds func(x api.State) bool) api.State {
	t.Helper()
	x := withValidators(0, validators...)
	for !holds(x) {
		x.Slot++
		if x.Slot == 100000 {
			t.Fatal("there is no such slot")
		}
	}
	return x
}

// lowAt tells the first try whose lot is at most that one; -1, if there is none.
func lowAt(lots []byte, most byte) int {
	return slices.IndexFunc(lots, func(lot byte) bool { return lot <= most })
}

// poorCrowd of 300 without any balance, of whom nobody is taken, not even behind the last try that counts; so that each try is another one's.
func poorCrowd(t *testing.T, drawsOf func(api.State) draws) (api.State, []try) {
	t.Helper()
	x := findSlot(t, members(300, 0), func(x api.State) bool { return lowAt(drawsOf(x).lots(), 0) < 0 })
	return x, drawsOf(x).tries()
}

// The chapter's examples.

func TestExamples(t *testing.T) {
	wantNoProposer(t, api.State{})
	wantNoSync(t, api.State{})
	for _, slot := range someSlots() {
		wantNoProposer(t, withValidators(slot))
		wantNoSync(t, withValidators(slot))
		x := withValidators(slot, members(1, full)...)
		wantProposer(t, x, 0)
		wantSync(t, x, 0, 0, 0, 0, 0, 0, 0, 0)
	}
	// Without any balance the lot 0 is needed, eight of them for a committee.
	found, all := 0, 60
	for slot := range uint64(all) {
		x := withValidators(slot, members(1, 0)...)
		wantPlain(t, x)
		if lowAt(proposerDraws(x).lots()[:256], 0) >= 0 {
			found++
			wantProposer(t, x, 0)
		} else {
			wantNoProposer(t, x)
		}
		wantNoSync(t, x)
	}
	if found == 0 || found == all {
		t.Errorf("%d slots of %d have a proposer without any balance", found, all)
	}
}

// P15.1 and P15.2, by the second reading.

func TestBothOfAllSlotsAndNumbers(t *testing.T) {
	for _, n := range someNumbers() {
		for k, increments := range []uint64{0, 1, 2, 16, 17, 31, 32} {
			x := withValidators(0, members(n, increments)...)
			for at, slot := range someSlots() {
				if x.Slot = slot; at%7 > k { // the poor ones, who take the most tries, less often
					continue
				}
				wantPlain(t, x)
			}
		}
	}
}

func TestBothByChance(t *testing.T) {
	r := rand.New(rand.NewPCG(15, 1))
	for range 400 {
		x := withValidators(96+uint64(r.IntN(12)), mixed(r.IntN(70), 25, r)...)
		for k := range x.Mixes {
			x.Mixes[k] = rootOf("chance", r.Int())
		}
		wantPlain(t, x)
	}
	for range 30 {
		wantPlain(t, withValidators(r.Uint64N(lastSlot+1), mixed(200+r.IntN(2000), 25, r)...))
	}
}

func TestBothOfAFullRegistry(t *testing.T) {
	for _, n := range []int{65535, 65536} {
		for _, increments := range []uint64{1, 32} {
			wantPlain(t, withValidators(103, members(n, increments)...))
		}
	}
}

// TestSlashedMayBeChosen: neither slashings nor balances that aren't the effective ones matter.
func TestSlashedMayBeChosen(t *testing.T) {
	r := rand.New(rand.NewPCG(15, 2))
	for slot := uint64(90); slot < 110; slot++ {
		x := withValidators(slot, members(50, 0)...)
		for i := range x.Validators {
			x.Validators[i].Effective = uint64(r.IntN(33)) * gwei
		}
		who, err := pick.Proposer(x)
		committee, err2 := pick.Sync(x)
		if err != api.OK || err2 != api.OK {
			t.Fatalf("slot %d: errors %d and %d", slot, err, err2)
		}
		for i := range x.Validators {
			x.Validators[i].Slashed, x.Validators[i].Withdrawable, x.Balances[i] = true, 0, uint64(i)
		}
		wantProposer(t, x, who)
		wantSync(t, x, committee...)
	}
}

// TestWhoseEpoch: a proposer is active in the state's epoch, a sync committee in the next one.
func TestWhoseEpoch(t *testing.T) {
	for _, slot := range []uint64{0, 1, 3, 100, 101, 102, 103, lastSlot - 3, lastSlot} {
		epoch := slot / 4
		now := withValidators(slot, member(full, epoch+1, epoch+1), member(full, epoch, epoch+1), member(full, far, far))
		wantProposer(t, now, 1)
		wantNoSync(t, now)
		next := withValidators(slot, member(full, far, far), member(full, epoch, epoch), member(full, epoch+1, epoch+2))
		wantNoProposer(t, next)
		wantSync(t, next, 2, 2, 2, 2, 2, 2, 2, 2)
		other := withValidators(slot, member(full, epoch+2, far), member(full, 0, epoch), member(full, far, far))
		wantNoProposer(t, other)
		wantNoSync(t, other)
		both := withValidators(slot, member(full, epoch+1, far), member(full, 0, epoch+1))
		wantProposer(t, both, 1)
		wantSync(t, both, 0, 0, 0, 0, 0, 0, 0, 0)
	}
}

// TestChosenAreActive: also in a crowd (P0.1).
func TestChosenAreActive(t *testing.T) {
	r := rand.New(rand.NewPCG(15, 3))
	for range 200 {
		x := withValidators(96+uint64(r.IntN(12)), mixed(1+r.IntN(40), 25, r)...)
		mustRight(t, x)
		who, err := pick.Proposer(x)
		if err == api.OK && !slices.Contains(plainActives(x, x.Slot/4), who) {
			t.Errorf("the proposer %d of slot %d isn't active", who, x.Slot)
		}
		committee, _ := pick.Sync(x)
		for _, v := range committee {
			if !slices.Contains(plainActives(x, x.Slot/4+1), v) {
				t.Errorf("%d of the committee of slot %d isn't active", v, x.Slot)
			}
		}
	}
}

// TestSeedOfProposer: it is of the slot, and of one mix alone; that of Sync is of the epoch.
func TestSeedOfProposer(t *testing.T) {
	validators := members(1000, full)
	for _, slot := range someSlots() {
		x := withValidators(slot, validators...)
		mustRight(t, x)
		proposer, _ := pick.Proposer(x)
		committee, _ := pick.Sync(x)
		for k := range uint64(8) {
			y := x
			y.Mixes[k][31] ^= 128
			other, _ := pick.Proposer(y)
			if changed := other != proposer; changed != (k == (slot/4+6)%8) {
				t.Errorf("the proposer of slot %d, the mix %d being another: changed %v", slot, k, changed)
			}
			others, _ := pick.Sync(y)
			if changed := !slices.Equal(others, committee); changed != (k == (slot/4+7)%8) {
				t.Errorf("the committee of slot %d, the mix %d being another: changed %v", slot, k, changed)
			}
		}
		y := x
		y.Slot = slot ^ 1
		if other, _ := pick.Proposer(y); other == proposer {
			t.Errorf("the slots %d and %d have one proposer", slot, y.Slot)
		}
		wantSync(t, y, committee...)
		y.Slot = (slot + 4) % (lastSlot + 1)
		if others, _ := pick.Sync(y); slices.Equal(others, committee) {
			t.Errorf("the epochs of the slots %d and %d have one committee", slot, y.Slot)
		}
	}
}

// P15.1, try by try.

// TestProposerOfEachTry: 300 of whom just one has enough for its lot, and no more; and then an Increment less.
func TestProposerOfEachTry(t *testing.T) {
	x, tries := poorCrowd(t, proposerDraws)
	wantNoProposer(t, x)
	for i, one := range tries {
		v := &x.Validators[one.who]
		v.Effective = enough(one.lot) * gwei
		if i < 256 {
			wantProposer(t, x, one.who)
		} else {
			wantNoProposer(t, x)
		}
		v.Effective -= gwei
		wantNoProposer(t, x)
		v.Effective = 0
	}
}

// TestProposerIsTheFirst that is taken, though a later one would be too.
func TestProposerIsTheFirst(t *testing.T) {
	x, tries := poorCrowd(t, proposerDraws)
	for i := 299; i >= 0; i-- {
		x.Validators[tries[i].who].Effective = enough(tries[i].lot) * gwei
		if i < 256 {
			wantProposer(t, x, tries[i].who)
		} else {
			wantNoProposer(t, x)
		}
	}
}

// TestProposerAtTheLots of 0, for which nothing is needed, and of 255, for which all is, and those beside them.
func TestProposerAtTheLots(t *testing.T) {
	asked := map[byte]uint64{0: 0, 1: 1, 7: 1, 8: 2, 127: 16, 128: 17, 135: 17, 136: 18, 247: 31, 248: 32, 254: 32, 255: 32}
	for lot, needed := range asked {
		if enough(lot) != needed {
			t.Fatalf("enough for %d: %d; want %d", lot, enough(lot), needed)
		}
		at := -1
		x := findSlot(t, members(300, 0), func(x api.State) bool {
			lots := proposerDraws(x).lots()[:256]
			at = slices.Index(lots, lot)
			return at >= 0 && (lot == 0 || lowAt(lots, 0) < 0)
		})
		who := proposerDraws(x).who(at)
		for increments := range uint64(33) {
			x.Validators[who].Effective = increments * gwei
			if increments >= needed {
				wantProposer(t, x, who)
			} else {
				wantNoProposer(t, x)
			}
		}
	}
}

// TestProposerComesRound: with few, one that isn't taken at first is later on, by another lot.
func TestProposerComesRound(t *testing.T) {
	for _, n := range []int{1, 2, 3, 5, 31, 32, 33, 224, 255} {
		x := findSlot(t, members(n, 0), func(x api.State) bool {
			at := lowAt(proposerDraws(x).lots(), 0)
			return at >= n && at < 256
		})
		d := proposerDraws(x)
		wantProposer(t, x, d.who(lowAt(d.lots(), 0)))
	}
}

// TestProposerOfLateTries: with few, so late that it is of the last sum, in the last try, and only beyond it.
func TestProposerOfLateTries(t *testing.T) {
	for _, at := range []int{0, 31, 32, 33, 63, 64, 223, 224, 225, 254, 255, 256, 257} {
		x := findSlot(t, members(3, 0), func(x api.State) bool { return lowAt(proposerDraws(x).lots(), 0) == at })
		if at < 256 {
			wantProposer(t, x, proposerDraws(x).who(at))
		} else {
			wantNoProposer(t, x)
		}
	}
}

// P15.2, try by try.

// TestSyncOfEachTry: 300 of whom just eight have enough for their lots; the last one of them comes with each try once.
func TestSyncOfEachTry(t *testing.T) {
	x, tries := poorCrowd(t, syncDraws)
	wantNoSync(t, x)
	var first []uint64
	for _, one := range tries[:7] {
		x.Validators[one.who].Effective = enough(one.lot) * gwei
		first = append(first, one.who)
		wantNoSync(t, x)
	}
	for i, one := range tries[7:] {
		v := &x.Validators[one.who]
		v.Effective = enough(one.lot) * gwei
		if 7+i < 256 {
			wantSync(t, x, append(first, one.who)...)
		} else {
			wantNoSync(t, x)
		}
		v.Effective -= gwei
		wantNoSync(t, x)
		v.Effective = 0
	}
}

// TestSyncIsTheFirstEight, in the order of their tries, from anywhere on.
func TestSyncIsTheFirstEight(t *testing.T) {
	x, tries := poorCrowd(t, syncDraws)
	for i := 299; i >= 0; i-- {
		x.Validators[tries[i].who].Effective = full * gwei
		if i > 248 { // seven of those that count, at most
			wantNoSync(t, x)
			continue
		}
		var want []uint64
		for _, one := range tries[i : i+8] {
			want = append(want, one.who)
		}
		wantSync(t, x, want...)
	}
}

// TestSyncOfOneSeveralTimes: with few, the same ones come again; whether they are taken is each lot's own.
func TestSyncOfOneSeveralTimes(t *testing.T) {
	x := withValidators(103, members(3, full)...)
	var want []uint64
	for i := range 8 {
		want = append(want, syncDraws(x).who(i))
	}
	if want[0] != want[3] || want[0] == want[1] {
		t.Fatalf("three come round as %d", want)
	}
	wantSync(t, x, want...)
	// Of two just one has something: it alone is taken, from the lots that are low enough.
	for slot := range uint64(40) {
		x := withValidators(slot, member(0, 0, far), member(17, 0, far))
		if lowAt(syncDraws(x).lots(), 0) < 0 {
			wantSync(t, x, 1, 1, 1, 1, 1, 1, 1, 1)
		}
	}
}

// TestSyncOfSevenOrEight: with an Increment each, mostly some eight of 256 lots are low enough.
func TestSyncOfSevenOrEight(t *testing.T) {
	seen := map[int]int{}
	for slot := uint64(0); slot < 400; slot += 4 {
		x := withValidators(slot, members(5, 1)...)
		taken := syncDraws(x).taken(x, 256)
		seen[len(taken)]++
		if len(taken) < 8 {
			wantNoSync(t, x)
		} else {
			wantSync(t, x, taken[:8]...)
		}
	}
	if seen[7] == 0 || seen[8] == 0 || seen[9] == 0 {
		t.Errorf("how many were taken: %v; want seven, eight and nine among them", seen)
	}
	// The eighth comes in the last try, or in the one behind it.
	for _, at := range []int{255, 256} {
		x := findSlot(t, members(5, 1), func(x api.State) bool {
			var low []int
			for i, lot := range syncDraws(x).lots() {
				if lot <= 7 {
					low = append(low, i)
				}
			}
			return len(low) >= 8 && low[7] == at
		})
		if at == 255 {
			wantSync(t, x, syncDraws(x).taken(x, 8)...)
		} else {
			wantNoSync(t, x)
		}
	}
}

// P15.3

func TestSum(t *testing.T) {
	var keys []api.Key
	for n := range 70 {
		if got, want := pick.Sum(keys), plainSum(keys); got != want {
			t.Errorf("Sum of %d keys: %x; want %x", n, got, want)
		}
		keys = append(keys, keyOf(n))
	}
	if pick.Sum(nil) != pick.Sum([]api.Key{}) {
		t.Error("no keys and nil have other sums")
	}
	great := slices.Repeat([]api.Key{keyOf(0), keyOf(1), keyOf(2)}, 20000)
	if got, want := pick.Sum(great), plainSum(great); got != want {
		t.Errorf("Sum of %d keys: %x; want %x", len(great), got, want)
	}
}

// TestSumOfAnotherOrder: other keys, or the same in another order, have another sum.
func TestSumOfAnotherOrder(t *testing.T) {
	seen := map[api.Key]string{}
	a, b, c := keyOf(0), keyOf(1), keyOf(2)
	for name, keys := range map[string][]api.Key{
		"none": nil, "a": {a}, "b": {b}, "aa": {a, a}, "ab": {a, b}, "ba": {b, a}, "aaa": {a, a, a},
		"abc": {a, b, c}, "acb": {a, c, b}, "bac": {b, a, c}, "bca": {b, c, a}, "cab": {c, a, b}, "cba": {c, b, a}, "zero": {{}}, "zeros": {{}, {}},
	} {
		sum := pick.Sum(keys)
		if other, ok := seen[sum]; ok {
			t.Errorf("%s and %s have one sum", name, other)
		}
		seen[sum] = name
	}
	for i := range 48 {
		changed := a
		changed[i] ^= 1
		if pick.Sum([]api.Key{changed}) == pick.Sum([]api.Key{a}) {
			t.Errorf("the byte %d of a key doesn't matter", i)
		}
	}
}

// TestNext: keys as they stand in the registry, also if they are those of several.
func TestNext(t *testing.T) {
	x := withValidators(103, members(1, full)...)
	c, err := pick.Next(x)
	if err != api.OK || c.Keys != [8]api.Key(slices.Repeat([]api.Key{keyOf(0)}, 8)) || c.Sum != plainSum(c.Keys[:]) {
		t.Errorf("Next of one validator: %x, error %d", c, err)
	}
	for _, n := range someNumbers() {
		x := withValidators(102, members(n, 20)...)
		who, err := pick.Sync(x)
		if err != api.OK {
			t.Fatalf("Sync of %d: error %d", n, err)
		}
		c, err := pick.Next(x)
		for i, v := range who {
			if c.Keys[i] != keyOf(int(v)) {
				t.Errorf("Next of %d: the key %d isn't that of %d", n, i, v)
			}
		}
		if c.Sum != pick.Sum(c.Keys[:]) || err != api.OK {
			t.Errorf("Next of %d: the sum %x, error %d", n, c.Sum, err)
		}
		for i := range x.Validators {
			x.Validators[i].Key = api.Key{7}
		}
		wantSync(t, x, who...)
	}
}

// What is handed in stays, and what is answered is new memory.

// whole tells all of a state's lists, their spare room too.
func whole(x *api.State) []byte {
	var b []byte
	v := reflect.ValueOf(x).Elem()
	for i := range v.NumField() {
		f := v.Field(i)
		if f.Kind() == reflect.Slice {
			f = f.Slice3(0, f.Cap(), f.Cap())
		}
		b = fmt.Append(b, f.Interface())
	}
	return b
}

// askAll calls all functions, and answers what they answer.
func askAll(x api.State) string {
	proposer, err := pick.Proposer(x)
	b := fmt.Append(nil, proposer, err)
	committee, err := pick.Sync(x)
	b = fmt.Append(b, len(committee), committee, err)
	next, err := pick.Next(x)
	b = fmt.Append(b, next, err)
	return string(fmt.Append(b, pick.Sum(next.Keys[:])))
}

func TestWhatIsHandedInStays(t *testing.T) {
	r := rand.New(rand.NewPCG(15, 5))
	for _, n := range []int{0, 1, 2, 5, 16, 100, 300} {
		for _, validators := range [][]api.Validator{members(n, full), members(n, 0), members(n, 1), mixed(n, 25, r)} {
			x := withValidators(103, validators...)
			before := whole(&x)
			one, two := askAll(x), askAll(x)
			if !bytes.Equal(whole(&x), before) {
				t.Errorf("%d validators: the state was changed, or its room", n)
			}
			if one != two {
				t.Errorf("%d validators: asked again, other answers", n)
			}
		}
	}
}

func TestKeysStay(t *testing.T) {
	for n := range 12 {
		all := make([]api.Key, 14)
		for i := range all {
			all[i] = keyOf(i)
		}
		before := slices.Clone(all)
		if got, want := pick.Sum(all[1:1+n]), plainSum(before[1:1+n]); got != want {
			t.Errorf("Sum of %d keys with room behind: %x; want %x", n, got, want)
		}
		if !slices.Equal(all, before) {
			t.Errorf("Sum changed %d keys, or their room", n)
		}
	}
}

// spoil what was answered, its room too, as a caller may.
func spoil(l []uint64) {
	_ = append(l, 7)
	all := l[:cap(l)]
	for i := range all {
		all[i] = 1 << 40
	}
}

// TestAnswersAreNewMemory: what the caller does with an answer changes neither the state nor another answer.
func TestAnswersAreNewMemory(t *testing.T) {
	for _, n := range []int{0, 1, 2, 3, 5, 16, 17, 100} {
		for _, increments := range []uint64{0, 1, 17, 32} {
			x := withValidators(103, members(n, increments)...)
			before := whole(&x)
			told := askAll(x)
			first, _ := pick.Sync(x)
			second, _ := pick.Sync(x)
			want := slices.Clone(second)
			spoil(first)
			if !slices.Equal(second, want) {
				t.Errorf("two answers of %d validators share memory", n)
			}
			if !bytes.Equal(whole(&x), before) {
				t.Errorf("an answer of %d validators shares memory with the state", n)
			}
			if askAll(x) != told {
				t.Errorf("%d validators: other answers, once one was changed by the caller", n)
			}
		}
	}
}

// TestNothingIsKept: a state that was changed by its owner tells what it is now, and what it told before stays.
func TestNothingIsKept(t *testing.T) {
	x := withValidators(103, members(40, full)...)
	before, _ := pick.Sync(x)
	kept := slices.Clone(before)
	for i := range x.Validators {
		x.Validators[i].Exit, x.Validators[i].Effective = uint64(26+i%2), uint64(i%33)*gwei
	}
	x.Mixes[7], x.Mixes[0] = rootOf("another", 0), rootOf("another", 1)
	if !slices.Equal(before, kept) {
		t.Errorf("an answer hangs on the state later on")
	}
	wantPlain(t, x)
	for i := range x.Validators {
		x.Validators[i].Exit = 25
	}
	wantNoProposer(t, x)
	wantNoSync(t, x)
}

// TestRoomIsNoValidator: those behind the end of the registry aren't there.
func TestRoomIsNoValidator(t *testing.T) {
	x := withValidators(103, members(100, full)...)
	for _, n := range []int{15, 1, 0} {
		x.Validators, x.Balances, x.Previous, x.Current, x.Scores = x.Validators[:n], x.Balances[:n], x.Previous[:n], x.Current[:n], x.Scores[:n]
		wantPlain(t, x)
	}
	wantNoProposer(t, x)
	wantNoSync(t, x)
}

// Nothing is kept from call to call, and calls side by side don't meet.
func TestCallsSideBySide(t *testing.T) {
	r := rand.New(rand.NewPCG(15, 6))
	states := make([]api.State, 8)
	wants := make([]string, len(states))
	for i := range states {
		states[i] = withValidators(100+uint64(i), mixed(10*i, 25, r)...)
		wants[i] = askAll(states[i])
	}
	var wait sync.WaitGroup
	for i := range 4 * len(states) {
		wait.Go(func() {
			if got := askAll(states[i%8]); got != wants[i%8] {
				t.Errorf("side by side the state %d tells something else", i%8)
			}
		})
	}
	wait.Wait()
}
