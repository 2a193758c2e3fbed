package state_test

import (
	"crypto/sha256"
	"encoding/binary"
	"fmt"
	"math/big"
	"reflect"
	"slices"

	"pharos/api"
)

// A second reading of the chapter, by hand and with the library alone: of a state's bytes, of what is refused, of its root, and of what is right.

// The lists of a state, in their order.
const (
	history = iota
	votes
	validators
	balances
	previous
	current
	scores
	listCount
)

func listName(i int) string {
	return []string{"History", "Votes", "Validators", "Balances", "Previous", "Current", "Scores"}[i]
}

// elementSize: how many bytes an element of a list has.
func elementSize(i int) int { return []int{32, 72, 121, 8, 1, 1, 8}[i] }

// mostElements: how many elements a list may have.
func mostElements(i int) int { return []int{1024, 8, 65536, 65536, 65536, 65536, 65536}[i] }

// offsetAt: where a list's offset stands in the head, which has 2101 bytes.
func offsetAt(i int) int { return []int{688, 764, 776, 780, 1104, 1108, 1233}[i] }

const (
	headLength = 2101
	bitsAt     = 1112
	slashedAt  = 88 // in a validator
)

// Bytes by hand.

func eight(b []byte, n uint64) []byte { return binary.LittleEndian.AppendUint64(b, n) }

func four(b []byte, n int) []byte { return binary.LittleEndian.AppendUint32(b, uint32(n)) }

func offset(b []byte, at int) int { return int(binary.LittleEndian.Uint32(b[at:])) }

func numbersText(numbers []uint64) []byte {
	var b []byte
	for _, n := range numbers {
		b = eight(b, n)
	}
	return b
}

func rootsText(roots []api.Root) []byte {
	var b []byte
	for _, r := range roots {
		b = append(b, r[:]...)
	}
	return b
}

func eth1Text(b []byte, x api.Eth1) []byte {
	b = append(b, x.Deposits[:]...)
	b = eight(b, x.Count)
	return append(b, x.Block[:]...)
}

func validatorText(b []byte, x api.Validator) []byte {
	b = append(b, x.Key[:]...)
	b = append(b, x.Credentials[:]...)
	b = eight(b, x.Effective)
	if x.Slashed {
		b = append(b, 1)
	} else {
		b = append(b, 0)
	}
	b = eight(b, x.Eligible)
	b = eight(b, x.Activation)
	b = eight(b, x.Exit)
	return eight(b, x.Withdrawable)
}

func checkpointText(b []byte, x api.Checkpoint) []byte {
	return append(eight(b, x.Epoch), x.Root[:]...)
}

func committeeText(b []byte, x api.Committee) []byte {
	for _, k := range x.Keys {
		b = append(b, k[:]...)
	}
	return append(b, x.Sum[:]...)
}

// fourBits: the newest is the lowest.
func fourBits(l [4]bool) byte {
	v := byte(0)
	for i, bit := range l {
		if bit {
			v += []byte{1, 2, 4, 8}[i]
		}
	}
	return v
}

// listTexts are the bytes of a state's seven lists.
func listTexts(x api.State) [listCount][]byte {
	l := [listCount][]byte{
		history: rootsText(x.History), balances: numbersText(x.Balances), scores: numbersText(x.Scores),
		previous: slices.Clone(x.Previous), current: slices.Clone(x.Current),
	}
	for _, v := range x.Votes {
		l[votes] = eth1Text(l[votes], v)
	}
	for _, v := range x.Validators {
		l[validators] = validatorText(l[validators], v)
	}
	return l
}

// layState lays a state of which these are the bytes of the lists.
func layState(x api.State, lists [listCount][]byte) []byte {
	var at [listCount]int
	end := headLength
	for i, l := range lists {
		at[i] = end
		end += len(l)
	}
	b := make([]byte, 0, end)
	b = eight(b, x.Genesis)
	b = append(b, x.GenesisRoot[:]...)
	b = eight(b, x.Slot)
	b = append(b, x.Fork.Previous[:]...)
	b = append(b, x.Fork.Current[:]...)
	b = eight(b, x.Fork.Epoch)
	b = eight(eight(b, x.Header.Slot), x.Header.Proposer)
	b = append(b, x.Header.Parent[:]...)
	b = append(b, x.Header.State[:]...)
	b = append(b, x.Header.Body[:]...)
	b = append(b, rootsText(x.BlockRoots[:])...)
	b = append(b, rootsText(x.StateRoots[:])...)
	b = four(b, at[history])
	b = eth1Text(b, x.Eth1)
	b = four(b, at[votes])
	b = eight(b, x.Deposits)
	b = four(b, at[validators])
	b = four(b, at[balances])
	b = append(b, rootsText(x.Mixes[:])...)
	b = append(b, numbersText(x.Slashings[:])...)
	b = four(b, at[previous])
	b = four(b, at[current])
	b = append(b, fourBits(x.Bits))
	b = checkpointText(b, x.OldJust)
	b = checkpointText(b, x.Just)
	b = checkpointText(b, x.Final)
	b = four(b, at[scores])
	b = committeeText(b, x.Sync)
	b = committeeText(b, x.NextSync)
	for _, l := range lists {
		b = append(b, l...)
	}
	return b
}

func stateText(x api.State) []byte { return layState(x, listTexts(x)) }

// What is refused, by hand.

func refuseList(i int, b []byte) api.Errno {
	switch {
	case len(b)%elementSize(i) != 0:
		return api.ErrSize
	case len(b)/elementSize(i) > mostElements(i):
		return api.ErrLong
	}
	for at := slashedAt; i == validators && at < len(b); at += 121 {
		if b[at] > 1 {
			return api.ErrForm
		}
	}
	return api.OK
}

func refuse(b []byte) api.Errno {
	if len(b) < headLength {
		return api.ErrSize
	}
	var ends []int
	for i := range listCount {
		ends = append(ends, offset(b, offsetAt(i)))
	}
	ends = append(ends, len(b))
	if ends[0] != headLength || !slices.IsSorted(ends) {
		return api.ErrForm
	}
	for i := range listCount {
		// The bits stand behind Current and ahead of Scores.
		if i == scores && b[bitsAt] > 15 {
			return api.ErrForm
		}
		if err := refuseList(i, b[ends[i]:ends[i+1]]); err != api.OK {
			return err
		}
	}
	return api.OK
}

// Roots by hand.

// two is the hash of two roots, by the library.
func two(a, b api.Root) api.Root {
	var both [64]byte
	copy(both[:32], a[:])
	copy(both[32:], b[:])
	return sha256.Sum256(both[:])
}

// tree of chunks and as many zero chunks as make them 2^depth, by halves.
func tree(chunks []api.Root, depth int) api.Root {
	if len(chunks) > 1<<depth {
		panic("too many chunks")
	}
	if len(chunks) == 0 {
		var zero api.Root
		for range depth {
			zero = two(zero, zero)
		}
		return zero
	}
	if depth == 0 {
		return chunks[0]
	}
	half := min(len(chunks), 1<<(depth-1))
	return two(tree(chunks[:half], depth-1), tree(chunks[half:], depth-1))
}

// chunks of bytes, the last one filled up with zeros.
func chunks(b []byte) []api.Root {
	var all []api.Root
	for len(b) > 0 {
		var c api.Root
		b = b[copy(c[:], b):]
		all = append(all, c)
	}
	return all
}

func numberChunk(n uint64) api.Root { return chunks(eight(nil, n))[0] }

// keyRoot: 48 bytes are two chunks, the second one half full.
func keyRoot(k api.Key) api.Root { return tree(chunks(k[:]), 1) }

// three fields are filled up to four.
func three(a, b, c api.Root) api.Root { return two(two(a, b), two(c, api.Root{})) }

func forkRoot(x api.Fork) api.Root {
	return three(chunks(x.Previous[:])[0], chunks(x.Current[:])[0], numberChunk(x.Epoch))
}

// headerRoot: five fields are filled up to eight.
func headerRoot(x api.Header) api.Root {
	return tree([]api.Root{numberChunk(x.Slot), numberChunk(x.Proposer), x.Parent, x.State, x.Body}, 3)
}

func eth1Root(x api.Eth1) api.Root { return three(x.Deposits, numberChunk(x.Count), x.Block) }

func checkpointRoot(x api.Checkpoint) api.Root { return two(numberChunk(x.Epoch), x.Root) }

func validatorRoot(x api.Validator) api.Root {
	var slashed api.Root
	if x.Slashed {
		slashed[0] = 1
	}
	return two(
		two(two(keyRoot(x.Key), x.Credentials), two(numberChunk(x.Effective), slashed)),
		two(two(numberChunk(x.Eligible), numberChunk(x.Activation)), two(numberChunk(x.Exit), numberChunk(x.Withdrawable))),
	)
}

func committeeRoot(x api.Committee) api.Root {
	var keys []api.Root
	for _, k := range x.Keys {
		keys = append(keys, keyRoot(k))
	}
	return two(tree(keys, 3), keyRoot(x.Sum))
}

// listRoot mixes a list's length into the tree of its greatest number of chunks, which is 2^depth.
func listRoot(chunks []api.Root, depth, length int) api.Root {
	return two(tree(chunks, depth), numberChunk(uint64(length)))
}

// fieldRoots of the 24 fields: History has 2^10 places, Votes 2^3, Validators 2^16; Balances and Scores have four numbers a chunk, Previous and Current 32 bytes.
func fieldRoots(x api.State) []api.Root {
	var voted, registry []api.Root
	for _, v := range x.Votes {
		voted = append(voted, eth1Root(v))
	}
	for _, v := range x.Validators {
		registry = append(registry, validatorRoot(v))
	}
	return []api.Root{
		numberChunk(x.Genesis),
		x.GenesisRoot,
		numberChunk(x.Slot),
		forkRoot(x.Fork),
		headerRoot(x.Header),
		tree(x.BlockRoots[:], 3),
		tree(x.StateRoots[:], 3),
		listRoot(x.History, 10, len(x.History)),
		eth1Root(x.Eth1),
		listRoot(voted, 3, len(x.Votes)),
		numberChunk(x.Deposits),
		listRoot(registry, 16, len(x.Validators)),
		listRoot(chunks(numbersText(x.Balances)), 14, len(x.Balances)),
		tree(x.Mixes[:], 3),
		tree(chunks(numbersText(x.Slashings[:])), 1),
		listRoot(chunks(x.Previous), 11, len(x.Previous)),
		listRoot(chunks(x.Current), 11, len(x.Current)),
		{fourBits(x.Bits)},
		checkpointRoot(x.OldJust),
		checkpointRoot(x.Just),
		checkpointRoot(x.Final),
		listRoot(chunks(numbersText(x.Scores)), 14, len(x.Scores)),
		committeeRoot(x.Sync),
		committeeRoot(x.NextSync),
	}
}

// stateRoot: 24 fields are filled up to 32.
func stateRoot(x api.State) api.Root { return tree(fieldRoots(x), 5) }

// What is right, by hand.

func power(exponent int) *big.Int { return new(big.Int).Lsh(big.NewInt(1), uint(exponent)) }

func number(n uint64) *big.Int { return new(big.Int).SetUint64(n) }

func sum(numbers []uint64) *big.Int {
	all := new(big.Int)
	for _, n := range numbers {
		all.Add(all, number(n))
	}
	return all
}

func below(n uint64, bound *big.Int) bool { return number(n).Cmp(bound) < 0 }

func rightByHand(x api.State) bool {
	n := len(x.Validators)
	for i, length := range lengths(x) {
		if length > mostElements(i) || i >= validators && length != n {
			return false
		}
	}
	if !below(x.Slot, power(40)) || !below(x.Deposits, power(40)) || x.Header.Slot > x.Slot {
		return false
	}
	for _, c := range []api.Checkpoint{x.OldJust, x.Just, x.Final} {
		// An epoch above that of the slot begins behind it.
		if new(big.Int).Mul(number(c.Epoch), big.NewInt(4)).Cmp(number(x.Slot)) > 0 {
			return false
		}
	}
	for _, v := range x.Validators {
		if !slices.Contains(increments(), v.Effective) {
			return false
		}
		for _, epoch := range []uint64{v.Eligible, v.Activation, v.Exit, v.Withdrawable} {
			if epoch != 1<<64-1 && !below(epoch, power(41)) {
				return false
			}
		}
	}
	for _, score := range x.Scores {
		if number(score).Cmp(power(40)) > 0 {
			return false
		}
	}
	return sum(x.Balances).Cmp(power(57)) <= 0 && sum(x.Slashings[:]).Cmp(power(57)) <= 0
}

// increments are all effective balances that there may be: 0 to 32 of 10^9.
func increments() []uint64 {
	var all []uint64
	for i := range uint64(33) {
		all = append(all, i*1000000000)
	}
	return all
}

func lengths(x api.State) shape {
	return shape{len(x.History), len(x.Votes), len(x.Validators), len(x.Balances), len(x.Previous), len(x.Current), len(x.Scores)}
}

// States of all shapes.

// shape tells how long the lists are.
type shape [listCount]int

// each list with so many, but not more than it may have.
func each(n int) shape {
	var s shape
	for i := range s {
		s[i] = min(n, mostElements(i))
	}
	return s
}

func full() shape { return each(65536) }

// with another length of one list.
func (s shape) with(i, n int) shape {
	s[i] = n
	return s
}

// room for so many, and some spare room.
func room[T any](n int) []T { return make([]T, n, n+3) }

// ground makes a byte of each place, counted over all leaves.
type ground func(i int) byte

func all(v byte) ground { return func(int) byte { return v } }

// rising bytes from 1 on: neighbours differ, so that none can be told for the other.
func rising(i int) byte { return byte(i + 1) }

// value of this shape whose leaves have the ground's bytes, in the order of the fields; a bit has a byte too, and takes its lowest bit.
func value(of ground, s shape) api.State {
	x := api.State{
		History: room[api.Root](s[history]), Votes: room[api.Eth1](s[votes]), Validators: room[api.Validator](s[validators]),
		Balances: room[uint64](s[balances]), Previous: room[uint8](s[previous]), Current: room[uint8](s[current]), Scores: room[uint64](s[scores]),
	}
	at := 0
	walk(reflect.ValueOf(&x).Elem(), func(v reflect.Value, size int) {
		b := make([]byte, size)
		for i := range b {
			b[i] = of(at)
			at++
		}
		set(v, b)
	})
	return x
}

// walk goes to what has no fields of its own, with the number of its bytes.
func walk(v reflect.Value, do func(v reflect.Value, size int)) {
	switch v.Kind() {
	case reflect.Uint64:
		do(v, 8)
	case reflect.Bool:
		do(v, 1)
	case reflect.Struct:
		for i := range v.NumField() {
			walk(v.Field(i), do)
		}
	case reflect.Array, reflect.Slice:
		if v.Type().Elem().Kind() == reflect.Uint8 {
			do(v, v.Len())
			return
		}
		for i := range v.Len() {
			walk(v.Index(i), do)
		}
	default:
		panic(v.Kind())
	}
}

func set(v reflect.Value, b []byte) {
	switch v.Kind() {
	case reflect.Uint64:
		v.SetUint(binary.LittleEndian.Uint64(b))
	case reflect.Bool:
		v.SetBool(b[0]&1 == 1)
	default:
		copy(v.Bytes(), b)
	}
}

// leaf is what has no fields of its own, in a state or in anything inside of it.
type leaf struct {
	name string
	size int // in bytes
	v    reflect.Value
}

func (l leaf) isNumber() bool { return l.v.Kind() == reflect.Uint64 }

func (l leaf) isBit() bool { return l.v.Kind() == reflect.Bool }

// leaves of a state, in the order of the fields.
func leaves(x *api.State) []leaf {
	var all []leaf
	v := reflect.ValueOf(x).Elem()
	for i := range v.NumField() {
		count := 0
		walk(v.Field(i), func(one reflect.Value, size int) {
			all = append(all, leaf{fmt.Sprintf("%s, leaf %d", v.Type().Field(i).Name, count), size, one})
			count++
		})
	}
	return all
}

// lists of a state.
func lists(x *api.State) []reflect.Value {
	var all []reflect.Value
	v := reflect.ValueOf(x).Elem()
	for i := range v.NumField() {
		if v.Field(i).Kind() == reflect.Slice {
			all = append(all, v.Field(i))
		}
	}
	return all
}

// same: nil and an empty list are.
func same(a, b api.State) bool {
	ls, ms := lists(&a), lists(&b)
	for i, l := range ls {
		if l.Len() == 0 && ms[i].Len() == 0 {
			l.SetZero()
			ms[i].SetZero()
		}
	}
	return reflect.DeepEqual(a, b)
}
