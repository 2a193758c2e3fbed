package state

import (
	"bytes"

	"pharos/api"
	"pharos/merkle"
	"pharos/ssz"
	"pharos/word"
)

// How many bytes the fields and the elements of lists have.
const (
	anySize        = 0 // what ssz takes for a part of any size
	numberSize     = 8
	rootSize       = 32
	forkSize       = 16
	headerSize     = 112
	eth1Size       = 72
	validatorSize  = 121
	checkpointSize = 40
	committeeSize  = 432
	bitsSize       = 1
)

// How many chunks the greatest lists fill: one has room for four numbers, or for 32 bytes.
const (
	numbersChunks = (api.MaxValidators + 3) / 4
	flagsChunks   = (api.MaxValidators + 31) / 32
)

// The places of the fields.
const (
	atGenesis = iota
	atGenesisRoot
	atSlot
	atFork
	atHeader
	atBlockRoots
	atStateRoots
	atHistory
	atEth1
	atVotes
	atDeposits
	atValidators
	atBalances
	atMixes
	atSlashings
	atPrevious
	atCurrent
	atBits
	atOldJust
	atJust
	atFinal
	atScores
	atSync
	atNextSync
)

func fieldSizes() []int {
	return []int{
		atGenesis:     numberSize,
		atGenesisRoot: rootSize,
		atSlot:        numberSize,
		atFork:        forkSize,
		atHeader:      headerSize,
		atBlockRoots:  api.Roots * rootSize,
		atStateRoots:  api.Roots * rootSize,
		atHistory:     anySize,
		atEth1:        eth1Size,
		atVotes:       anySize,
		atDeposits:    numberSize,
		atValidators:  anySize,
		atBalances:    anySize,
		atMixes:       api.Mixes * rootSize,
		atSlashings:   api.Slashings * numberSize,
		atPrevious:    anySize,
		atCurrent:     anySize,
		atBits:        bitsSize,
		atOldJust:     checkpointSize,
		atJust:        checkpointSize,
		atFinal:       checkpointSize,
		atScores:      anySize,
		atSync:        committeeSize,
		atNextSync:    committeeSize,
	}
}

// listsFit tells whether no list is longer than it may be.
func listsFit(x api.State) bool {
	return len(x.History) <= api.MaxHistory &&
		len(x.Votes) <= api.MaxVotes &&
		len(x.Validators) <= api.MaxValidators &&
		len(x.Balances) <= api.MaxValidators &&
		len(x.Previous) <= api.MaxValidators &&
		len(x.Current) <= api.MaxValidators &&
		len(x.Scores) <= api.MaxValidators
}

func numberBytes(n uint64) []byte {
	eight := word.Bytes(n)
	return eight[:]
}

func numbersBytes(numbers []uint64) []byte {
	b := make([]byte, 0, len(numbers)*numberSize)
	for _, n := range numbers {
		eight := word.Bytes(n)
		b = append(b, eight[:]...)
	}
	return b
}

func rootsBytes(roots []api.Root) []byte {
	b := make([]byte, 0, len(roots)*rootSize)
	for _, root := range roots {
		b = append(b, root[:]...)
	}
	return b
}

// listBytes of elements that all have one size.
func listBytes[T any](list []T, enc func(T) []byte) []byte {
	var b []byte
	for _, x := range list {
		b = append(b, enc(x)...)
	}
	return b
}

// readEach: a list of elements of one size; ErrSize, ErrLong, and the error of the first element that can't be read.
func readEach[T any](b []byte, size, most int, read func([]byte) (T, api.Errno)) ([]T, api.Errno) {
	parts, err := ssz.Each(b, size, most)
	if err != api.OK {
		return nil, err
	}
	list := make([]T, len(parts))
	for i, part := range parts {
		if list[i], err = read(part); err != api.OK {
			return nil, err
		}
	}
	return list, api.OK
}

// readFlags of all validators; ErrLong. Each byte is an element, so that any number of them is whole, and there is no need to cut them.
func readFlags(b []byte) ([]uint8, api.Errno) {
	if len(b) > api.MaxValidators {
		return nil, api.ErrLong
	}
	return bytes.Clone(b), api.OK
}

// readRoot of bytes that were cut as those of a root.
func readRoot(b []byte) (api.Root, api.Errno) {
	var root api.Root
	copy(root[:], b)
	return root, api.OK
}

// fillRoots with bytes that were cut as those of so many.
func fillRoots(roots []api.Root, b []byte) {
	for i := range roots {
		copy(roots[i][:], b[i*rootSize:])
	}
}

// fillNumbers with bytes that were cut as those of so many.
func fillNumbers(numbers []uint64, b []byte) {
	for i := range numbers {
		numbers[i], _ = word.Read(b[i*numberSize : (i+1)*numberSize])
	}
}

// rootOf the roots of a container's fields, or of one thing several times. There are as many as the limit, so nothing is refused.
func rootOf(roots ...api.Root) api.Root {
	root, _ := merkle.Tree(roots, len(roots))
	return root
}

// bytesRoot is the root of what has just bytes.
func bytesRoot(b []byte) api.Root { return rootOf(merkle.Pack(b)...) }

func numberRoot(n uint64) api.Root { return bytesRoot(numberBytes(n)) }

// eachRoot: the roots of a list's elements.
func eachRoot[T any](list []T, root func(T) api.Root) []api.Root {
	roots := make([]api.Root, len(list))
	for i, x := range list {
		roots[i] = root(x)
	}
	return roots
}

// listRoot is the root of a list of this length with these chunks, which aren't more than the greatest one's, so that nothing is refused.
func listRoot(chunks []api.Root, most, length int) api.Root {
	root, _ := merkle.Tree(chunks, most)
	return merkle.Mix(root, uint64(length))
}
