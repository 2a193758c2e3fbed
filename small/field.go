package small

import (
	"pharos/api"
	"pharos/merkle"
	"pharos/ssz"
	"pharos/word"
)

// How many bytes the fields have.
const (
	versionSize    = 4
	numberSize     = 8
	boolSize       = 1
	rootSize       = 32
	keySize        = 48
	sigSize        = 96
	bitsSize       = (api.SyncSize + 7) / 8
	keysSize       = api.SyncSize * keySize
	checkpointSize = numberSize + rootSize
	headerSize     = 2*numberSize + 3*rootSize
	exitSize       = 2 * numberSize
)

// lay the bytes of fields, of which none is empty. As each is as long as its size says, nothing is refused.
func lay(fields ...[]byte) []byte {
	sizes := make([]int, len(fields))
	for i, field := range fields {
		sizes[i] = len(field)
	}
	b, _ := ssz.Lay(fields, sizes)
	return b
}

func numberBytes(n uint64) []byte {
	b := word.Bytes(n)
	return b[:]
}

// readNumber reads bytes that were cut as those of a number.
func readNumber(b []byte) uint64 {
	n, _ := word.Read(b)
	return n
}

func boolBytes(v bool) []byte {
	if v {
		return []byte{1}
	}
	return []byte{0}
}

func keysBytes(keys [api.SyncSize]api.Key) []byte {
	b := make([]byte, 0, keysSize)
	for _, key := range keys {
		b = append(b, key[:]...)
	}
	return b
}

// readKeys reads bytes that were cut as those of the keys.
func readKeys(b []byte) [api.SyncSize]api.Key {
	var keys [api.SyncSize]api.Key
	for i := range keys {
		copy(keys[i][:], b[i*keySize:])
	}
	return keys
}

// rootOf the roots of a container's fields, or of one thing several times. There are as many as the limit, so nothing is refused.
func rootOf(roots ...api.Root) api.Root {
	root, _ := merkle.Tree(roots, len(roots))
	return root
}

// bytesRoot is the root of what has just bytes: also of a number, a bool or bits.
func bytesRoot(b []byte) api.Root { return rootOf(merkle.Pack(b)...) }

func numberRoot(n uint64) api.Root { return bytesRoot(numberBytes(n)) }

func keysRoot(keys [api.SyncSize]api.Key) api.Root {
	roots := make([]api.Root, len(keys))
	for i, key := range keys {
		roots[i] = bytesRoot(key[:])
	}
	return rootOf(roots...)
}
