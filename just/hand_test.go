package just_test

import (
	"bytes"
	"crypto/sha256"
	"fmt"
	"math/big"
	"reflect"
	"slices"
	"testing"

	"pharos/api"
	"pharos/just"
	"pharos/state"
)

const (
	far       = 1<<64 - 1
	top       = 1<<64 - 1
	lastSlot  = 1<<40 - 1 // of a right state
	lastEpoch = 1<<41 - 1 // of a validator of a right state, but Far
	most      = 1 << 57   // of balances or slashings together
	gwei      = 1000000000
	full      = 32      // Increments
	heaviest  = 1 << 60 // of what is weighed
)

// States by hand.

// room for so many, and some spare room, so that what writes there is seen.
func room[T any](n int) []T { return make([]T, n, n+3) }

// rootOf a number: another root for each.
func rootOf(what string, v int) api.Root { return sha256.Sum256(fmt.Append(nil, what, v)) }

// rootsOf so many numbers.
func rootsOf(what string, n int) []api.Root {
	roots := make([]api.Root, n)
	for i := range roots {
		roots[i] = rootOf(what, i)
	}
	return roots
}

// keyOf a validator: another key for each.
func keyOf(v int) api.Key {
	front, back := rootOf("key", v), rootOf("key's end", v)
	return api.Key(append(front[:], back[:16]...))
}

// eth1Of a number: another one for each.
func eth1Of(v int) api.Eth1 {
	return api.Eth1{Deposits: rootOf("deposits", v), Count: uint64(v), Block: rootOf("eth1 block", v)}
}

// eth1sOf so many numbers, from 0 on, with spare room.
func eth1sOf(n int) []api.Eth1 {
	all := room[api.Eth1](n)
	for i := range all {
		all[i] = eth1Of(i)
	}
	return all
}

// member has so many Increments, and is active from an epoch on till another.
func member(increments, activation, exit uint64) api.Validator {
	return api.Validator{Effective: increments * gwei, Eligible: far, Activation: activation, Exit: exit, Withdrawable: far}
}

// members: so many that are active always, with so many Increments each.
func members(n int, increments uint64) []api.Validator {
	return slices.Repeat([]api.Validator{member(increments, 0, far)}, n)
}

// withValidators is a state at a slot with these validators, to whom it gives keys. What stands in it is another thing in each place; of the sync committee are the validators 0 to 7.
func withValidators(slot uint64, validators ...api.Validator) api.State {
	n := len(validators)
	x := api.State{
		Genesis: 5, GenesisRoot: rootOf("genesis", 0), Slot: slot, Deposits: 9,
		Fork:   api.Fork{Previous: api.Version{1, 2, 3, 4}, Current: api.Version{5, 6, 7, 8}, Epoch: 10},
		Header: api.Header{Slot: max(slot, 1) - 1, Proposer: 3, Parent: rootOf("parent", 0), State: rootOf("state of the header", 0), Body: rootOf("body", 0)},
		Eth1:   eth1Of(100), Votes: eth1sOf(2), History: room[api.Root](2),
		Validators: room[api.Validator](n), Balances: room[uint64](n),
		Previous: room[uint8](n), Current: room[uint8](n), Scores: room[uint64](n),
		Bits:    [4]bool{true, false, true, true},
		OldJust: api.Checkpoint{Root: rootOf("justified", 0)}, Just: api.Checkpoint{Root: rootOf("justified", 1)}, Final: api.Checkpoint{Root: rootOf("final", 0)},
	}
	copy(x.History, rootsOf("history", 2))
	copy(x.Validators, validators)
	for i := range n {
		x.Validators[i].Key, x.Validators[i].Credentials = keyOf(i), rootOf("credentials", i)
		x.Balances[i], x.Scores[i], x.Previous[i], x.Current[i] = uint64(17*gwei+i), uint64(i+4), uint8(i), uint8(i+1)
	}
	for i := range 8 {
		x.BlockRoots[i], x.StateRoots[i], x.Mixes[i] = rootOf("block", i), rootOf("state", i), rootOf("mix", i)
		x.Slashings[i] = uint64(i) * gwei
		x.Sync.Keys[i], x.NextSync.Keys[i] = keyOf(i), keyOf(2000+i)
	}
	x.Sync.Sum, x.NextSync.Sum = keyOf(3000), keyOf(3001)
	return x
}

func mustRight(t *testing.T, x api.State) {
	t.Helper()
	if !state.Right(x) {
		t.Fatalf("the test's own state at slot %d with %d validators isn't right", x.Slot, len(x.Validators))
	}
}

// withFlags is a state at a slot with these validators, whose flags are told by a letter each: S, T, H, or a dot for none, or a digit for a set of them; of Previous first.
func withFlags(slot uint64, previous, current string, validators ...api.Validator) api.State {
	x := withValidators(slot, validators...)
	for i := range validators {
		x.Previous[i], x.Current[i] = flagsOf(previous[i]), flagsOf(current[i])
	}
	return x
}

func flagsOf(letter byte) uint8 {
	switch letter {
	case 'S':
		return 1
	case 'T':
		return 2
	case 'H':
		return 4
	case '.':
		return 0
	case 'F': // all bits there are
		return 255
	case 'N': // all bits but those of the three flags
		return 248
	default:
		return letter - '0'
	}
}

// weighing is all that Weigh looks at.
type weighing struct {
	slot                   uint64
	bits                   string // an x for each bit that is set, the newest first
	first, second, final   uint64 // epochs of OldJust, Just and Final
	all, previous, current uint64
}

// bitsOf letters.
func bitsOf(letters string) [4]bool {
	var bits [4]bool
	for i := range bits {
		bits[i] = letters[i] == 'x'
	}
	return bits
}

// lettersOf a number's lowest four bits, the lowest first.
func lettersOf(set int) string {
	letters := []byte("....")
	for i := range letters {
		if set>>i&1 != 0 {
			letters[i] = 'x'
		}
	}
	return string(letters)
}

// stateOf a weighing: with three validators.
func stateOf(w weighing) api.State {
	x := withValidators(w.slot, members(3, full)...)
	x.Bits = bitsOf(w.bits)
	x.OldJust.Epoch, x.Just.Epoch, x.Final.Epoch = w.first, w.second, w.final
	return x
}

// ends: slots of epochs' ends, from the first one to the last one of a right state.
func ends() []uint64 {
	return []uint64{3, 7, 11, 15, 19, 23, 27, 31, 35, 39, 63, 67, 103, 107, 1<<32 + 3, 1<<32 + 7, lastSlot - 4, lastSlot}
}

// Second readings of the chapters, in numbers that can't wrap.

func number(n uint64) *big.Int { return new(big.Int).SetUint64(n) }

func plainActives(x api.State, epoch uint64) []uint64 {
	var all []uint64
	for i, v := range x.Validators {
		if number(v.Activation).Cmp(number(epoch)) <= 0 && number(v.Exit).Cmp(number(epoch)) > 0 {
			all = append(all, uint64(i))
		}
	}
	return all
}

// plainTotal of validators that are there, none twice.
func plainTotal(x api.State, who []uint64) uint64 {
	all := uint64(0)
	for _, i := range who {
		all += x.Validators[i].Effective
	}
	return max(all, gwei)
}

// clone of a state, its lists too.
func clone(x api.State) api.State {
	x.History, x.Votes = slices.Clone(x.History), slices.Clone(x.Votes)
	x.Validators, x.Balances, x.Scores = slices.Clone(x.Validators), slices.Clone(x.Balances), slices.Clone(x.Scores)
	x.Previous, x.Current = slices.Clone(x.Previous), slices.Clone(x.Current)
	return x
}

// answer of a call: a state, an error.
type answer struct {
	state api.State
	err   api.Errno
}

func refused(err api.Errno) answer { return answer{err: err} }

// plainUnslashed reads P22.1 once more.
func plainUnslashed(x api.State, flag int, epoch uint64) ([]uint64, api.Errno) {
	now, previous := x.Slot/4, x.Slot/4
	if now > 0 {
		previous--
	}
	if !state.Right(x) || flag != 0 && flag != 1 && flag != 2 || epoch != now && epoch != previous {
		return nil, api.ErrArg
	}
	var all []uint64
	for _, i := range plainActives(x, epoch) {
		flags := map[bool][]uint8{true: x.Current, false: x.Previous}[epoch == now]
		if set := flags[i] / []uint8{1, 2, 4}[flag]; !x.Validators[i].Slashed && set%2 == 1 {
			all = append(all, i)
		}
	}
	return all, api.OK
}

// row of what makes a checkpoint final: bits that are set, and how many epochs ago it is.
type row struct {
	bits  string
	isOld bool
	ago   uint64
}

func rows() []row {
	return []row{{".xxx", true, 3}, {".xx.", true, 2}, {"xxx.", false, 2}, {"xx..", false, 1}}
}

// holds, if all bits are set that are asked for, and the checkpoint's epoch is so long ago.
func (r row) holds(bits [4]bool, epoch, now uint64) bool {
	for i, is := range bitsOf(r.bits) {
		if is && !bits[i] {
			return false
		}
	}
	return new(big.Int).Add(number(epoch), number(r.ago)).Cmp(number(now)) == 0
}

// plainWeigh reads P22.2 once more.
func plainWeigh(x api.State, all, previous, current uint64) answer {
	if !state.Right(x) || x.Slot%4 != 3 || all > heaviest || previous > heaviest || current > heaviest {
		return refused(api.ErrArg)
	}
	y := clone(x)
	now := x.Slot / 4
	y.OldJust = x.Just
	copy(y.Bits[1:], x.Bits[:3])
	y.Bits[0] = false
	enough := func(part uint64) bool {
		return new(big.Int).Mul(number(part), number(3)).Cmp(new(big.Int).Mul(number(all), number(2))) >= 0
	}
	if before := x.Slot - 7; enough(previous) {
		if now == 0 {
			before = 0
		}
		y.Just, y.Bits[1] = api.Checkpoint{Epoch: before / 4, Root: x.BlockRoots[before%8]}, true
	}
	if first := x.Slot - 3; enough(current) {
		y.Just, y.Bits[0] = api.Checkpoint{Epoch: now, Root: x.BlockRoots[first%8]}, true
	}
	for _, r := range rows() {
		checkpoint := x.Just
		if r.isOld {
			checkpoint = x.OldJust
		}
		if r.holds(y.Bits, checkpoint.Epoch, now) {
			y.Final = checkpoint
		}
	}
	return answer{y, api.OK}
}

// plainJustify reads P22.3 once more.
func plainJustify(x api.State) answer {
	if !state.Right(x) || x.Slot%4 != 3 {
		return refused(api.ErrArg)
	}
	if x.Slot < 8 {
		return answer{clone(x), api.OK}
	}
	previous, err := plainUnslashed(x, 1, x.Slot/4-1)
	current, err2 := plainUnslashed(x, 1, x.Slot/4)
	if err != api.OK || err2 != api.OK {
		return refused(99)
	}
	return plainWeigh(x, plainTotal(x, plainActives(x, x.Slot/4)), plainTotal(x, previous), plainTotal(x, current))
}

// What is seen of states.

// sameState tells whether two right states are the same, nil and an empty list being so too.
func sameState(t *testing.T, a, b api.State) bool {
	t.Helper()
	one, err := state.EncState(a)
	two, err2 := state.EncState(b)
	if err != api.OK || err2 != api.OK {
		t.Fatalf("a state can't be written: errors %d, %d", err, err2)
	}
	return bytes.Equal(one, two)
}

// isZero tells whether a state is the zero one, its lists nil or empty.
func isZero(x api.State) bool {
	v := reflect.ValueOf(x)
	for i := range v.NumField() {
		f := v.Field(i)
		if f.Kind() == reflect.Slice && f.Len() > 0 || f.Kind() != reflect.Slice && !f.IsZero() {
			return false
		}
	}
	return true
}

// roomy tells a value, and of each list in it the room behind its end too.
func roomy(b []byte, v reflect.Value) []byte {
	switch v.Kind() {
	case reflect.Slice:
		v = v.Slice3(0, v.Cap(), v.Cap())
		for i := range v.Len() {
			b = roomy(append(b, ';'), v.Index(i))
		}
		return append(b, ']')
	case reflect.Struct:
		for i := range v.NumField() {
			b = roomy(append(b, ','), v.Field(i))
		}
		return b
	default:
		return fmt.Append(b, v.Interface())
	}
}

// whole of what a pointer points to, as text.
func whole(x any) string { return string(roomy(nil, reflect.ValueOf(x).Elem())) }

// spoil all that stands in the lists of what is pointed to, and in their room, as a caller may.
func spoil(x any) { spoilLists(reflect.ValueOf(x).Elem()) }

func spoilLists(v reflect.Value) {
	switch v.Kind() {
	case reflect.Slice:
		v = v.Slice3(0, v.Cap(), v.Cap())
		for i := range v.Len() {
			spoilLists(v.Index(i))
			change(v.Index(i))
		}
	case reflect.Struct, reflect.Array:
		for i := range parts(v) {
			spoilLists(part(v, i))
		}
	}
}

// change each number, bit and byte of a value; lists stay where they are.
func change(v reflect.Value) {
	switch v.Kind() {
	case reflect.Struct, reflect.Array:
		for i := range parts(v) {
			change(part(v, i))
		}
	case reflect.Bool:
		v.SetBool(!v.Bool())
	case reflect.Uint64, reflect.Uint8:
		v.SetUint(^v.Uint() & 0xff)
	}
}

// parts of a struct or an array: how many.
func parts(v reflect.Value) int {
	if v.Kind() == reflect.Struct {
		return v.NumField()
	}
	return v.Len()
}

func part(v reflect.Value, i int) reflect.Value {
	if v.Kind() == reflect.Struct {
		return v.Field(i)
	}
	return v.Index(i)
}

// What is wanted.

// wantAnswer: the error, what is justified and final, and that nothing else changed.
func wantAnswer(t *testing.T, what string, got, want answer) {
	t.Helper()
	if got.err != want.err {
		t.Errorf("%s: error %d; want %d", what, got.err, want.err)
		return
	}
	if want.err != api.OK {
		if !isZero(got.state) {
			t.Errorf("%s: beside the error %d the state isn't the zero one", what, want.err)
		}
		return
	}
	y, z := got.state, want.state
	if y.Bits != z.Bits || y.OldJust != z.OldJust || y.Just != z.Just || y.Final != z.Final {
		t.Errorf("%s: bits %v, OldJust %v, Just %v, Final %v; want %v, %v, %v, %v", what, y.Bits, y.OldJust, y.Just, y.Final, z.Bits, z.OldJust, z.Just, z.Final)
		return
	}
	if !sameState(t, y, z) {
		t.Errorf("%s: something else changed", what)
	}
}

// wantUnslashed: these, by the second reading too.
func wantUnslashed(t *testing.T, what string, x api.State, flag int, epoch uint64, want ...uint64) {
	t.Helper()
	mustRight(t, x)
	got, err := just.Unslashed(x, flag, epoch)
	if err != api.OK || !slices.Equal(got, want) {
		t.Errorf("Unslashed, %s, flag %d, epoch %d: %d, error %d; want %d", what, flag, epoch, got, err, want)
	}
	if plain, err := plainUnslashed(x, flag, epoch); err != api.OK || !slices.Equal(plain, want) {
		t.Errorf("%s, flag %d, epoch %d: the second reading tells %d, error %d; want %d", what, flag, epoch, plain, err, want)
	}
}

// wantSameUnslashed as by the second reading, each flag and both epochs.
func wantSameUnslashed(t *testing.T, what string, x api.State) {
	t.Helper()
	for flag := range 3 {
		for _, epoch := range []uint64{x.Slot / 4, max(x.Slot/4, 1) - 1} {
			want, _ := plainUnslashed(x, flag, epoch)
			wantUnslashed(t, what, x, flag, epoch, want...)
		}
	}
}

// wantNoUnslashed: ErrArg, by the second reading too.
func wantNoUnslashed(t *testing.T, what string, x api.State, flag int, epoch uint64) {
	t.Helper()
	if got, err := just.Unslashed(x, flag, epoch); err != api.ErrArg || len(got) > 0 {
		t.Errorf("Unslashed, %s, flag %d, epoch %d: %d, error %d", what, flag, epoch, got, err)
	}
	if _, err := plainUnslashed(x, flag, epoch); err != api.ErrArg {
		t.Errorf("%s, flag %d, epoch %d: the second reading tells the error %d", what, flag, epoch, err)
	}
}

// wantWeigh by the second reading, and hands on what was answered.
func wantWeigh(t *testing.T, what string, x api.State, all, previous, current uint64) api.State {
	t.Helper()
	mustRight(t, x)
	want := plainWeigh(x, all, previous, current)
	if want.err != api.OK {
		t.Fatalf("%s: the second reading tells the error %d", what, want.err)
	}
	got, err := just.Weigh(x, all, previous, current)
	wantAnswer(t, "Weigh, "+what, answer{got, err}, want)
	return got
}

// wantNoWeigh: ErrArg, by the second reading too.
func wantNoWeigh(t *testing.T, what string, x api.State, all, previous, current uint64) {
	t.Helper()
	got, err := just.Weigh(x, all, previous, current)
	wantAnswer(t, "Weigh, "+what, answer{got, err}, refused(api.ErrArg))
	if plain := plainWeigh(x, all, previous, current); plain.err != api.ErrArg {
		t.Errorf("%s: the second reading tells the error %d", what, plain.err)
	}
}

// wantJustify by the second reading, and hands on what was answered.
func wantJustify(t *testing.T, what string, x api.State) api.State {
	t.Helper()
	mustRight(t, x)
	want := plainJustify(x)
	if want.err != api.OK {
		t.Fatalf("%s: the second reading tells the error %d", what, want.err)
	}
	got, err := just.Justify(x)
	wantAnswer(t, "Justify, "+what, answer{got, err}, want)
	return got
}

// wantNoJustify: ErrArg, by the second reading too.
func wantNoJustify(t *testing.T, what string, x api.State) {
	t.Helper()
	got, err := just.Justify(x)
	wantAnswer(t, "Justify, "+what, answer{got, err}, refused(api.ErrArg))
	if plain := plainJustify(x); plain.err != api.ErrArg {
		t.Errorf("%s: the second reading tells the error %d", what, plain.err)
	}
}
