package live

import (
	"pharos/api"
	"pharos/merkle"
	"pharos/small"
)

// The places of the state's fields.
const (
	atGenesis = iota
	atGenesisRoot
	atSlot
	atFork
	atHeader
	atBlockRoots
	atStateRoots
	atHistory
	atEth1
	atVotes
	atDeposits
	atValidators
	atBalances
	atMixes
	atSlashings
	atPrevious
	atCurrent
	atBits
	atOldJust
	atJust
	atFinal
	atScores
	atSync
	atNextSync
	fieldCount
)

// fieldRoots of a right state, but of the five lists that have trees.
func fieldRoots(x api.State) [fieldCount]api.Root {
	return [fieldCount]api.Root{
		atGenesis:     numberRoot(x.Genesis),
		atGenesisRoot: x.GenesisRoot,
		atSlot:        numberRoot(x.Slot),
		atFork:        small.RootFork(x.Fork),
		atHeader:      small.RootHeader(x.Header),
		atBlockRoots:  rootOf(x.BlockRoots[:]...),
		atStateRoots:  rootOf(x.StateRoots[:]...),
		atHistory:     listRoot(x.History, api.MaxHistory),
		atEth1:        small.RootEth1(x.Eth1),
		atVotes:       listRoot(votesRoots(x.Votes), api.MaxVotes),
		atDeposits:    numberRoot(x.Deposits),
		atMixes:       rootOf(x.Mixes[:]...),
		atSlashings:   slashingsRoot(x.Slashings),
		atBits:        bitsRoot(x.Bits),
		atOldJust:     small.RootCheckpoint(x.OldJust),
		atJust:        small.RootCheckpoint(x.Just),
		atFinal:       small.RootCheckpoint(x.Final),
		atSync:        small.RootCommittee(x.Sync),
		atNextSync:    small.RootCommittee(x.NextSync),
	}
}

// rootOf the roots of a container's fields, or of one thing several times. There are as many as the limit, so nothing is refused.
func rootOf(roots ...api.Root) api.Root {
	root, _ := merkle.Tree(roots, len(roots))
	return root
}

// listRoot is the root of a list with these elements' roots, which aren't more than there may be, so that nothing is refused.
func listRoot(roots []api.Root, most int) api.Root {
	root, _ := merkle.Tree(roots, most)
	return merkle.Mix(root, uint64(len(roots)))
}

// numberRoot: a number fills a part of one chunk.
func numberRoot(n uint64) api.Root { return numbersChunk([]uint64{n}) }

func votesRoots(votes []api.Eth1) []api.Root {
	roots := make([]api.Root, len(votes))
	for i, vote := range votes {
		roots[i] = small.RootEth1(vote)
	}
	return roots
}

// slashingsRoot: eight numbers fill two chunks.
func slashingsRoot(slashings [api.Slashings]uint64) api.Root {
	return rootOf(numbersChunk(slashings[:numbersOfChunk]), numbersChunk(slashings[numbersOfChunk:]))
}

// bitsRoot: four bits are one byte, the first the lowest. This layer calls none that lays bits.
func bitsRoot(four [4]bool) api.Root {
	var root api.Root
	for i, bit := range four {
		if bit {
			root[0] |= 1 << i
		}
	}
	return root
}
