package block

import (
	"pharos/api"
	"pharos/merkle"
	"pharos/small"
	"pharos/ssz"
	"pharos/word"
)

// How many bytes the fields and the elements of lists have.
const (
	anySize              = 0 // what ssz takes for a part of any size
	numberSize           = 8
	rootSize             = 32
	sigSize              = 96
	eth1Size             = 72
	syncSize             = 97
	proposerSlashingSize = 416
	depositSize          = 408
	signedExitSize       = 112
)

func bodySizes() []int {
	return []int{sigSize, eth1Size, rootSize, anySize, anySize, anySize, anySize, anySize, syncSize}
}

func blockSizes() []int { return []int{numberSize, numberSize, rootSize, rootSize, anySize} }

func signedBlockSizes() []int { return []int{anySize, sigSize} }

func numberBytes(n uint64) []byte {
	eight := word.Bytes(n)
	return eight[:]
}

// encList: the bytes of each element of a list that may have so many; ErrLong.
func encList[T any](list []T, most int, enc func(T) ([]byte, api.Errno)) ([][]byte, api.Errno) {
	if len(list) > most {
		return nil, api.ErrLong
	}
	parts := make([][]byte, len(list))
	for i, x := range list {
		part, err := enc(x)
		if err != api.OK {
			return nil, err
		}
		parts[i] = part
	}
	return parts, api.OK
}

// encEach: the bytes of a list of elements of one size; ErrLong.
func encEach[T any](list []T, most int, enc func(T) ([]byte, api.Errno)) ([]byte, api.Errno) {
	parts, err := encList(list, most, enc)
	if err != api.OK {
		return nil, err
	}
	var b []byte
	for _, part := range parts {
		b = append(b, part...)
	}
	return b, api.OK
}

// encMany: the bytes of a list of elements of any size; ErrLong.
func encMany[T any](list []T, most int, enc func(T) ([]byte, api.Errno)) ([]byte, api.Errno) {
	parts, err := encList(list, most, enc)
	if err != api.OK {
		return nil, err
	}
	return ssz.LayMany(parts)
}

// readList of elements that are cut already; the error of the first one that can't be read.
func readList[T any](parts [][]byte, read func([]byte) (T, api.Errno)) ([]T, api.Errno) {
	list := make([]T, len(parts))
	for i, part := range parts {
		x, err := read(part)
		if err != api.OK {
			return nil, err
		}
		list[i] = x
	}
	return list, api.OK
}

// readEach: a list of elements of one size; ErrSize, ErrLong, and those of an element.
func readEach[T any](b []byte, size, most int, read func([]byte) (T, api.Errno)) ([]T, api.Errno) {
	parts, err := ssz.Each(b, size, most)
	if err != api.OK {
		return nil, err
	}
	return readList(parts, read)
}

// readMany: a list of elements of any size; ErrSize, ErrForm, ErrLong, and those of an element.
func readMany[T any](b []byte, most int, read func([]byte) (T, api.Errno)) ([]T, api.Errno) {
	parts, err := ssz.Many(b, most)
	if err != api.OK {
		return nil, err
	}
	return readList(parts, read)
}

// listRoot: the root of a list of containers that may have so many; ErrLong.
func listRoot[T any](list []T, most int, root func(T) (api.Root, api.Errno)) (api.Root, api.Errno) {
	if len(list) > most {
		return api.Root{}, api.ErrLong
	}
	roots := make([]api.Root, len(list))
	for i, x := range list {
		one, err := root(x)
		if err != api.OK {
			return api.Root{}, err
		}
		roots[i] = one
	}
	// There are at most as many as the limit, so nothing is refused.
	all, _ := merkle.Tree(roots, most)
	return merkle.Mix(all, uint64(len(list))), api.OK
}

// encSignedExit and rootSignedExit: an exit has no list, so small tells no error of it, but the other elements of lists have one.
func encSignedExit(x api.SignedExit) ([]byte, api.Errno) { return small.EncSignedExit(x), api.OK }

func rootSignedExit(x api.SignedExit) (api.Root, api.Errno) { return small.RootSignedExit(x), api.OK }

// rootOf the roots of a container's fields. There are as many as the limit, so nothing is refused.
func rootOf(roots ...api.Root) api.Root {
	root, _ := merkle.Tree(roots, len(roots))
	return root
}

// bytesRoot is the root of what has just bytes.
func bytesRoot(b []byte) api.Root { return rootOf(merkle.Pack(b)...) }
