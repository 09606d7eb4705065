package store

import (
	"iter"
	"slices"

	"skep/codec"
)

// most is the greatest number that a head may have.
const most = 1 << 60

// head is what the first record of a file that counts says.
// Its age is one more with each snapshot: of two files the one with the greater counts.
type head struct {
	age  int
	from int
	snap []byte
}

// entry is what a record behind the head says.
type entry struct {
	number int
	bytes  []byte
}

// newest is the file that counts, and its head; a head that may be none, if no file counts.
func newest(told [files][][]byte) (int, head) {
	file, best := 0, head{}
	for i, records := range told {
		h, ok := headOf(records)
		if ok && h.age > best.age {
			file, best = i, h
		}
	}
	return file, best
}

// headOf is the head that a file's records begin with, and whether they do.
func headOf(records [][]byte) (head, bool) {
	if len(records) == 0 {
		return head{}, false
	}
	says := records[0]
	age, at, ok := codec.GetNumber(says, 0)
	if !ok {
		return head{}, false
	}
	from, at, ok := codec.GetNumber(says, at)
	h := head{age: age, from: from, snap: slices.Clone(says[at:])}
	return h, ok && h.mayBe()
}

// mayBe tells whether a head's numbers are within their bounds.
func (h head) mayBe() bool {
	return h.age >= 1 && h.age <= most && h.from >= 0 && h.from <= most
}

// bytes is what a head's record says.
func (h head) bytes() []byte {
	numbers := codec.PutNumber(codec.PutNumber(nil, h.age), h.from)
	return append(numbers, h.snap...)
}

// inOrder is the entries of the records behind a head, and whether no number is missing from the one behind last on.
func inOrder(records [][]byte, last int) ([][]byte, bool) {
	var list [][]byte
behind:
	for e, ok := range entries(records) {
		switch {
		case !ok || e.number > last+1:
			return nil, false
		case e.number <= last:
			continue behind
		}
		list = append(list, e.bytes)
		last = e.number
	}
	return list, true
}

// entries goes through the records behind a head: each as an entry, and whether it is one.
func entries(records [][]byte) iter.Seq2[entry, bool] {
	return func(yield func(entry, bool) bool) {
		for _, says := range records {
			n, at, ok := codec.GetNumber(says, 0)
			if !yield(entry{number: n, bytes: says[at:]}, ok) {
				return
			}
		}
	}
}
