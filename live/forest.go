package live

import (
	"pharos/api"
	"pharos/small"
	"pharos/tree"
	"pharos/word"
)

// What stands in a chunk of 32 bytes.
const (
	numbersOfChunk = 4
	flagsOfChunk   = 32
)

// forest: the trees of the five lists that have one of each validator.
type forest struct {
	validators, balances, scores, previous, current *tree.Tree
}

// plant five trees without leaves.
func plant() forest {
	return forest{
		validators: tree.New(api.MaxValidators),
		balances:   tree.New(api.MaxValidators / numbersOfChunk),
		scores:     tree.New(api.MaxValidators / numbersOfChunk),
		previous:   tree.New(api.MaxValidators / flagsOfChunk),
		current:    tree.New(api.MaxValidators / flagsOfChunk),
	}
}

func (f forest) copied() forest {
	return forest{
		validators: f.validators.Copy(),
		balances:   f.balances.Copy(),
		scores:     f.scores.Copy(),
		previous:   f.previous.Copy(),
		current:    f.current.Copy(),
	}
}

func (f forest) hashes() int {
	return f.validators.Hashes() + f.balances.Hashes() + f.scores.Hashes() + f.previous.Hashes() + f.current.Hashes()
}

// layValidator: the leaf of the validator i.
func layValidator(t *tree.Tree, validators []api.Validator, i int) {
	lay(t, i, small.RootValidator(validators[i]))
}

// layNumber: the leaf in which the number i stands.
func layNumber(t *tree.Tree, numbers []uint64, i int) {
	place := i / numbersOfChunk
	from := place * numbersOfChunk
	lay(t, place, numbersChunk(numbers[from:min(from+numbersOfChunk, len(numbers))]))
}

// layFlag: the leaf in which the flags i stand.
func layFlag(t *tree.Tree, flags []uint8, i int) {
	place := i / flagsOfChunk
	var chunk api.Root
	copy(chunk[:], flags[place*flagsOfChunk:])
	lay(t, place, chunk)
}

// lay a leaf where one stands, or behind the last one. There are never more than the limit, as no list of a right state is too long, so nothing is refused.
func lay(t *tree.Tree, place int, leaf api.Root) {
	if place == t.Len() {
		t.Append(leaf)
	} else {
		t.Set(place, leaf)
	}
}

// numbersChunk: at most four numbers, followed by zeros.
func numbersChunk(numbers []uint64) api.Root {
	var chunk api.Root
	for i, n := range numbers {
		eight := word.Bytes(n)
		copy(chunk[len(eight)*i:], eight[:])
	}
	return chunk
}
