package join_test

import (
	"bytes"
	"crypto/sha256"
	"encoding/binary"
	"fmt"
	"math/big"
	"reflect"
	"slices"
	"testing"

	"pharos/api"
	"pharos/join"
	"pharos/state"
)

const (
	far          = 1<<64 - 1
	top          = 1<<64 - 1
	lastSlot     = 1<<40 - 1 // of a right state
	lastEpoch    = 1<<41 - 1 // of a validator of a right state, but Far
	lastDeposits = 1<<40 - 1 // of a right state
	most         = 1 << 57   // of balances together, and of an amount
	gwei         = 1000000000
	full         = 32 // Increments
)

// States, deposits and exits by hand.

// room for so many, and some spare room, so that what writes there is seen.
func room[T any](n int) []T { return make([]T, n, n+3) }

// rootOf a number: another root for each.
func rootOf(what string, v int) api.Root { return sha256.Sum256(fmt.Append(nil, what, v)) }

// rootsOf so many numbers.
func rootsOf(what string, n int) []api.Root {
	roots := make([]api.Root, n)
	for i := range roots {
		roots[i] = rootOf(what, i)
	}
	return roots
}

// keyOf a validator: another key for each.
func keyOf(v int) api.Key {
	front, back := rootOf("key", v), rootOf("key's end", v)
	return api.Key(append(front[:], back[:16]...))
}

// sigOf a number: another signature for each.
func sigOf(v int) api.Sig {
	one, two, three := rootOf("sig", v), rootOf("sig's middle", v), rootOf("sig's end", v)
	return api.Sig(slices.Concat(one[:], two[:], three[:]))
}

// eth1Of a number: another one for each.
func eth1Of(v int) api.Eth1 {
	return api.Eth1{Deposits: rootOf("deposits", v), Count: uint64(v), Block: rootOf("eth1 block", v)}
}

// eth1sOf so many numbers, from 0 on, with spare room.
func eth1sOf(n int) []api.Eth1 {
	all := room[api.Eth1](n)
	for i := range all {
		all[i] = eth1Of(i)
	}
	return all
}

// member has so many Increments, and is active from an epoch on till another.
func member(increments, activation, exit uint64) api.Validator {
	return api.Validator{Effective: increments * gwei, Eligible: far, Activation: activation, Exit: exit, Withdrawable: far}
}

// members: so many that are active always, with so many Increments each.
func members(n int, increments uint64) []api.Validator {
	return slices.Repeat([]api.Validator{member(increments, 0, far)}, n)
}

// leavers: one that is active always and is full for each exit; those who leave can be withdrawn two epochs later.
func leavers(exits ...uint64) []api.Validator {
	var all []api.Validator
	for _, exit := range exits {
		v := member(full, 0, exit)
		if exit != far {
			v.Withdrawable = exit + 2
		}
		all = append(all, v)
	}
	return all
}

// withValidators is a state at a slot with these validators, to whom it gives keys. What stands in it is another thing in each place.
func withValidators(slot uint64, validators ...api.Validator) api.State {
	n := len(validators)
	x := api.State{
		Genesis: 5, GenesisRoot: rootOf("genesis", 0), Slot: slot, Deposits: 9,
		Fork:   api.Fork{Previous: api.Version{1, 2, 3, 4}, Current: api.Version{5, 6, 7, 8}, Epoch: 10},
		Header: api.Header{Slot: max(slot, 1) - 1, Proposer: 3, Parent: rootOf("parent", 0), State: rootOf("state of the header", 0), Body: rootOf("body", 0)},
		Eth1:   eth1Of(100), Votes: eth1sOf(2), History: room[api.Root](2),
		Validators: room[api.Validator](n), Balances: room[uint64](n),
		Previous: room[uint8](n), Current: room[uint8](n), Scores: room[uint64](n),
		Bits:    [4]bool{true, false, true, true},
		OldJust: api.Checkpoint{Root: rootOf("justified", 0)}, Just: api.Checkpoint{Root: rootOf("justified", 1)}, Final: api.Checkpoint{Root: rootOf("final", 0)},
	}
	copy(x.History, rootsOf("history", 2))
	copy(x.Validators, validators)
	for i := range n {
		x.Validators[i].Key, x.Validators[i].Credentials = keyOf(i), rootOf("credentials", i)
		x.Balances[i], x.Scores[i], x.Previous[i], x.Current[i] = uint64(17*gwei+i), uint64(i+4), uint8(i), uint8(i+1)
	}
	for i := range 8 {
		x.BlockRoots[i], x.StateRoots[i], x.Mixes[i] = rootOf("block", i), rootOf("state", i), rootOf("mix", i)
		x.Slashings[i] = uint64(i) * gwei
		x.Sync.Keys[i], x.NextSync.Keys[i] = keyOf(1000+i), keyOf(2000+i)
	}
	x.Sync.Sum, x.NextSync.Sum = keyOf(3000), keyOf(3001)
	return x
}

func mustRight(t *testing.T, x api.State) {
	t.Helper()
	if !state.Right(x) {
		t.Fatalf("the test's own state at slot %d with %d validators isn't right", x.Slot, len(x.Validators))
	}
}

// depositOf a number: another key, signature and branch for each.
func depositOf(v int, amount uint64) api.Deposit {
	d := api.Deposit{Data: api.DepositData{Key: keyOf(500 + v), Credentials: rootOf("a deposit's credentials", v), Amount: amount, Sig: sigOf(v)}}
	for i := range d.Proof {
		d.Proof[i] = rootOf("beside", 10*v+i)
	}
	return d
}

// depositFor a validator that there may be: it has its key.
func depositFor(i int, amount uint64) api.Deposit {
	d := depositOf(i, amount)
	d.Data.Key = keyOf(i)
	return d
}

// expecting a deposit: a state that has the root up to which the branch leads from its place on.
func expecting(x api.State, d api.Deposit) api.State {
	x.Eth1.Deposits = plainUp(d, x.Deposits)
	return x
}

// exitOf a validator at an epoch.
func exitOf(epoch, validator uint64) api.SignedExit {
	return api.SignedExit{Exit: api.Exit{Epoch: epoch, Validator: validator}, Sig: sigOf(int(validator % 1000))}
}

// Second readings of the chapters, in numbers that can't wrap and with the library's hash.

func number(n uint64) *big.Int { return new(big.Int).SetUint64(n) }

func plainTwo(a, b api.Root) api.Root { return sha256.Sum256(slices.Concat(a[:], b[:])) }

// chunk of at most 32 bytes.
func chunk(b []byte) api.Root {
	var c api.Root
	copy(c[:], b)
	return c
}

func numberChunk(n uint64) api.Root { return chunk(binary.LittleEndian.AppendUint64(nil, n)) }

// keyRoot: 48 bytes are two chunks, the second one half full.
func keyRoot(k api.Key) api.Root { return plainTwo(chunk(k[:32]), chunk(k[32:])) }

// sigRoot: three chunks, and a zero chunk behind them.
func sigRoot(s api.Sig) api.Root {
	return plainTwo(plainTwo(chunk(s[:32]), chunk(s[32:64])), plainTwo(chunk(s[64:]), api.Root{}))
}

func plainDataRoot(d api.DepositData) api.Root {
	return plainTwo(plainTwo(keyRoot(d.Key), d.Credentials), plainTwo(numberChunk(d.Amount), sigRoot(d.Sig)))
}

// plainMessage is the same without the signature.
func plainMessage(d api.DepositData) api.Root {
	return plainTwo(plainTwo(keyRoot(d.Key), d.Credentials), plainTwo(numberChunk(d.Amount), api.Root{}))
}

func plainExitRoot(e api.Exit) api.Root {
	return plainTwo(numberChunk(e.Epoch), numberChunk(e.Validator))
}

// plainUp a deposit's branch, from a place on.
func plainUp(d api.Deposit, place uint64) api.Root {
	root := plainDataRoot(d.Data)
	for _, beside := range d.Proof {
		pair := []api.Root{root, beside}
		root = plainTwo(pair[place%2], pair[1-place%2])
		place /= 2
	}
	return root
}

func plainActives(x api.State, epoch uint64) []uint64 {
	var all []uint64
	for i, v := range x.Validators {
		if number(v.Activation).Cmp(number(epoch)) <= 0 && number(v.Exit).Cmp(number(epoch)) > 0 {
			all = append(all, uint64(i))
		}
	}
	return all
}

// plainDomain of a kind below 256.
func plainDomain(x api.State, kind byte, epoch uint64) api.Root {
	version := x.Fork.Current
	if number(epoch).Cmp(number(x.Fork.Epoch)) < 0 {
		version = x.Fork.Previous
	}
	hash := plainTwo(chunk(version[:]), x.GenesisRoot)
	return api.Root(append([]byte{kind, 0, 0, 0}, hash[:28]...))
}

func plainQuestion(keys []api.Key, object, domain api.Root, sig api.Sig) api.Root {
	var b []byte
	for _, key := range keys {
		b = append(b, key[:]...)
	}
	root := plainTwo(object, domain)
	return sha256.Sum256(slices.Concat(b, root[:], sig[:]))
}

// askedOfDeposit: the question of a deposit whose key nobody has.
func askedOfDeposit(d api.Deposit) api.Root {
	hash := plainTwo(api.Root{}, api.Root{})
	domain := api.Root(append([]byte{3, 0, 0, 0}, hash[:28]...))
	return plainQuestion([]api.Key{d.Data.Key}, plainMessage(d.Data), domain, d.Data.Sig)
}

// askedOfExit: the question of an exit of a validator that is there.
func askedOfExit(x api.State, e api.SignedExit) api.Root {
	keys := []api.Key{x.Validators[e.Exit.Validator].Key}
	return plainQuestion(keys, plainExitRoot(e.Exit), plainDomain(x, 4, e.Exit.Epoch), e.Sig)
}

// clone of a state, its lists too.
func clone(x api.State) api.State {
	x.History, x.Votes = slices.Clone(x.History), slices.Clone(x.Votes)
	x.Validators, x.Balances, x.Scores = slices.Clone(x.Validators), slices.Clone(x.Balances), slices.Clone(x.Scores)
	x.Previous, x.Current = slices.Clone(x.Previous), slices.Clone(x.Current)
	return x
}

// plainLeave changes a state's validator, by the lists of all exits.
func plainLeave(x *api.State, i uint64) {
	if x.Validators[i].Exit != far {
		return
	}
	epoch := x.Slot / 4
	exits := []uint64{epoch + 3}
	for _, v := range x.Validators {
		exits = append(exits, v.Exit)
	}
	exits = slices.DeleteFunc(exits, func(exit uint64) bool { return exit == far })
	last := slices.Max(exits)
	same := -1 // the first of the list is nobody's
	if last > epoch+3 {
		same = 0
	}
	for _, exit := range exits {
		if exit == last {
			same++
		}
	}
	if same >= max(2, len(plainActives(*x, epoch))/32) {
		last++
	}
	x.Validators[i].Exit, x.Validators[i].Withdrawable = last, last+2
}

// answer of a call: a state, the questions, an error.
type answer struct {
	state api.State
	asked []api.Root
	err   api.Errno
}

func refused(err api.Errno, asked ...api.Root) answer { return answer{asked: asked, err: err} }

// ifStillRight is answered what the state behind a call is; ErrOver.
func ifStillRight(y api.State, asked ...api.Root) answer {
	if !state.Right(y) {
		return refused(api.ErrOver, asked...)
	}
	return answer{y, asked, api.OK}
}

// plainDeposit reads P20.1 once more.
func plainDeposit(x api.State, d api.Deposit, bad []api.Root) answer {
	if !state.Right(x) {
		return refused(api.ErrArg)
	}
	if plainUp(d, x.Deposits) != x.Eth1.Deposits {
		return refused(api.BadProof)
	}
	y := clone(x)
	y.Deposits = x.Deposits + 1
	amount := d.Data.Amount
	isTooGreat := number(amount).Cmp(number(most)) > 0
	for i, v := range x.Validators {
		if !bytes.Equal(v.Key[:], d.Data.Key[:]) {
			continue
		}
		if isTooGreat {
			return refused(api.ErrOver)
		}
		y.Balances[i] += amount
		return ifStillRight(y)
	}
	asked := askedOfDeposit(d)
	switch {
	case slices.Contains(bad, asked):
		return ifStillRight(y, asked)
	case len(x.Validators) == 65536:
		return refused(api.ErrLong, asked)
	case isTooGreat:
		return refused(api.ErrOver, asked)
	}
	y.Validators = append(y.Validators, plainNewcomer(d.Data))
	y.Balances, y.Scores = append(y.Balances, amount), append(y.Scores, 0)
	y.Previous, y.Current = append(y.Previous, 0), append(y.Current, 0)
	return ifStillRight(y, asked)
}

// plainNewcomer has at most 32 whole Increments.
func plainNewcomer(d api.DepositData) api.Validator {
	whole := amountIn(d.Amount)
	return api.Validator{Key: d.Key, Credentials: d.Credentials, Effective: whole * 1e9, Eligible: far, Activation: far, Exit: far, Withdrawable: far}
}

// amountIn whole Increments, at most 32.
func amountIn(amount uint64) uint64 {
	whole := uint64(0)
	for whole < 32 && (whole+1)*1e9 <= amount {
		whole++
	}
	return whole
}

// plainExit reads P20.2 once more.
func plainExit(x api.State, e api.SignedExit, bad []api.Root) answer {
	if !state.Right(x) {
		return refused(api.ErrArg)
	}
	epoch, who := x.Slot/4, e.Exit.Validator
	if !slices.Contains(plainActives(x, epoch), who) {
		return refused(api.BadWho)
	}
	v := x.Validators[who]
	switch {
	case v.Exit != far:
		return refused(api.BadExit)
	case number(e.Exit.Epoch).Cmp(number(epoch)) > 0:
		return refused(api.BadEpoch)
	case new(big.Int).Add(number(v.Activation), number(2)).Cmp(number(epoch)) > 0:
		return refused(api.BadDelay)
	}
	asked := askedOfExit(x, e)
	if slices.Contains(bad, asked) {
		return refused(api.BadSig, asked)
	}
	y := clone(x)
	plainLeave(&y, who)
	return ifStillRight(y, asked)
}

// What is seen of states, deposits and exits.

// sameState tells whether two right states are the same, nil and an empty list being so too.
func sameState(t *testing.T, a, b api.State) bool {
	t.Helper()
	one, err := state.EncState(a)
	two, err2 := state.EncState(b)
	if err != api.OK || err2 != api.OK {
		t.Fatalf("a state can't be written: errors %d, %d", err, err2)
	}
	return bytes.Equal(one, two)
}

// isZero tells whether a state is the zero one, its lists nil or empty.
func isZero(x api.State) bool {
	v := reflect.ValueOf(x)
	for i := range v.NumField() {
		f := v.Field(i)
		if f.Kind() == reflect.Slice && f.Len() > 0 || f.Kind() != reflect.Slice && !f.IsZero() {
			return false
		}
	}
	return true
}

// roomy tells a value, and of each list in it the room behind its end too.
func roomy(b []byte, v reflect.Value) []byte {
	switch v.Kind() {
	case reflect.Slice:
		v = v.Slice3(0, v.Cap(), v.Cap())
		for i := range v.Len() {
			b = roomy(append(b, ';'), v.Index(i))
		}
		return append(b, ']')
	case reflect.Struct:
		for i := range v.NumField() {
			b = roomy(append(b, ','), v.Field(i))
		}
		return b
	default:
		return fmt.Append(b, v.Interface())
	}
}

// whole of what a pointer points to, as text.
func whole(x any) string { return string(roomy(nil, reflect.ValueOf(x).Elem())) }

// spoil all that stands in the lists of what is pointed to, and in their room, as a caller may.
func spoil(x any) { spoilLists(reflect.ValueOf(x).Elem()) }

func spoilLists(v reflect.Value) {
	switch v.Kind() {
	case reflect.Slice:
		v = v.Slice3(0, v.Cap(), v.Cap())
		for i := range v.Len() {
			spoilLists(v.Index(i))
			change(v.Index(i))
		}
	case reflect.Struct, reflect.Array:
		for i := range parts(v) {
			spoilLists(part(v, i))
		}
	}
}

// change each number, bit and byte of a value; lists stay where they are.
func change(v reflect.Value) {
	switch v.Kind() {
	case reflect.Struct, reflect.Array:
		for i := range parts(v) {
			change(part(v, i))
		}
	case reflect.Bool:
		v.SetBool(!v.Bool())
	case reflect.Uint64, reflect.Uint8:
		v.SetUint(^v.Uint() & 0xff)
	}
}

// parts of a struct or an array: how many.
func parts(v reflect.Value) int {
	if v.Kind() == reflect.Struct {
		return v.NumField()
	}
	return v.Len()
}

func part(v reflect.Value, i int) reflect.Value {
	if v.Kind() == reflect.Struct {
		return v.Field(i)
	}
	return v.Index(i)
}

// What is wanted.

// wantAnswer: the error, the questions, and each part of the state.
func wantAnswer(t *testing.T, what string, got, want answer) {
	t.Helper()
	if !slices.Equal(got.asked, want.asked) {
		t.Errorf("%s, asked: %x; want %x", what, got.asked, want.asked)
	}
	if got.err != want.err {
		t.Errorf("%s: error %d; want %d", what, got.err, want.err)
		return
	}
	if want.err != api.OK {
		if !isZero(got.state) {
			t.Errorf("%s: beside the error %d the state isn't the zero one", what, want.err)
		}
		return
	}
	if len(got.state.Validators) != len(want.state.Validators) || len(got.state.Balances) != len(want.state.Balances) {
		t.Errorf("%s: %d validators, %d balances; want %d", what, len(got.state.Validators), len(got.state.Balances), len(want.state.Validators))
		return
	}
	if got.state.Slashings != want.state.Slashings {
		t.Errorf("%s: Slashings %d; want %d", what, got.state.Slashings, want.state.Slashings)
		return
	}
	for i, v := range want.state.Validators {
		if got.state.Validators[i] != v || got.state.Balances[i] != want.state.Balances[i] {
			t.Errorf("%s: validator %d: %v, balance %d; want %v, balance %d", what, i, got.state.Validators[i], got.state.Balances[i], v, want.state.Balances[i])
			return
		}
	}
	if !sameState(t, got.state, want.state) {
		t.Errorf("%s: something else changed", what)
	}
}

// wantDeposit by the second reading, by which it is taken, and hands on what was answered.
func wantDeposit(t *testing.T, what string, x api.State, d api.Deposit, bad []api.Root) api.State {
	t.Helper()
	mustRight(t, x)
	want := plainDeposit(x, d, bad)
	if want.err != api.OK {
		t.Fatalf("Deposit, %s: the second reading tells the error %d", what, want.err)
	}
	got, asked, err := join.Deposit(x, d, bad)
	wantAnswer(t, "Deposit, "+what, answer{got, asked, err}, want)
	return got
}

func wantNoDeposit(t *testing.T, what string, x api.State, d api.Deposit, bad []api.Root, want api.Errno, asked ...api.Root) {
	t.Helper()
	got, questions, err := join.Deposit(x, d, bad)
	wantAnswer(t, "Deposit, "+what, answer{got, questions, err}, refused(want, asked...))
}

// wantExit by the second reading, by which the validator is let leave, and hands on what was answered.
func wantExit(t *testing.T, what string, x api.State, e api.SignedExit, bad []api.Root) api.State {
	t.Helper()
	mustRight(t, x)
	want := plainExit(x, e, bad)
	if want.err != api.OK {
		t.Fatalf("Exit, %s: the second reading tells the error %d", what, want.err)
	}
	got, asked, err := join.Exit(x, e, bad)
	wantAnswer(t, "Exit, "+what, answer{got, asked, err}, want)
	return got
}

func wantNoExit(t *testing.T, what string, x api.State, e api.SignedExit, bad []api.Root, want api.Errno, asked ...api.Root) {
	t.Helper()
	got, questions, err := join.Exit(x, e, bad)
	wantAnswer(t, "Exit, "+what, answer{got, questions, err}, refused(want, asked...))
}
