package heap_test

import (
	"slices"
	"testing"

	"skep/heap"
)

// chance is numbers that look like any, the same at each run.
type chance uint64

func (c *chance) below(n int) int {
	*c = *c*6364136223846793005 + 1442695040888963407
	return int(uint64(*c)>>33) % n
}

// thing is an item of which many are alike by key, and none by its number.
type thing struct {
	key, number int
	name        string
}

// things is one for each key, numbered from 0 on.
func things(keys ...int) []thing {
	var out []thing
	for i, k := range keys {
		out = append(out, thing{key: k, number: i})
	}
	return out
}

func byKey(a, b thing) bool { return a.key < b.key }

// kind is items of a sort, and an order of them.
type kind[T comparable] struct {
	name string
	less func(a, b T) bool
	draw func(luck *chance) T
}

func numberKinds() []kind[int] {
	draw := func(luck *chance) int { return luck.below(90) - 30 }
	return []kind[int]{
		{"a number's own order", func(a, b int) bool { return a < b }, draw},
		{"a number's last digit", func(a, b int) bool { return a%10 < b%10 }, draw},
		{"the greatest number first", func(a, b int) bool { return a > b }, draw},
		{"the odd ones first", func(a, b int) bool { return a&1 > b&1 }, draw},
		{"numbers that are all alike", func(a, b int) bool { return false }, draw},
	}
}

func textKinds() []kind[string] {
	draw := func(luck *chance) string {
		b := make([]byte, luck.below(5))
		for i := range b {
			b[i] = byte('a' + luck.below(3))
		}
		return string(b)
	}
	return []kind[string]{
		{"a text's own order", func(a, b string) bool { return a < b }, draw},
		{"a text's length", func(a, b string) bool { return len(a) < len(b) }, draw},
		{"the longest text first", func(a, b string) bool { return len(a) > len(b) }, draw},
	}
}

func thingKinds() []kind[thing] {
	draw := func(luck *chance) thing { return thing{luck.below(4), luck.below(1000000), "thing"} }
	return []kind[thing]{
		{"a thing's key", byKey, draw},
		{"the greatest key first", func(a, b thing) bool { return a.key > b.key }, draw},
		{"a key, then the greatest number", func(a, b thing) bool {
			return a.key < b.key || a.key == b.key && a.number/1000 > b.number/1000
		}, draw},
	}
}

// plain is what is in, in the order in which it was put in, by the chapter's words.
type plain[T comparable] struct {
	less func(a, b T) bool
	l    []T
}

func (p *plain[T]) push(v T) { p.l = append(p.l, v) }

// first is the place of the first one: of those that none comes ahead of, the one that was put in first.
func (p *plain[T]) first() (int, bool) {
	for i, v := range p.l {
		if !slices.ContainsFunc(p.l, func(other T) bool { return p.less(other, v) }) {
			return i, true
		}
	}
	return 0, false
}

func (p *plain[T]) peek() (T, bool) {
	if i, ok := p.first(); ok {
		return p.l[i], true
	}
	return *new(T), false
}

func (p *plain[T]) pop() (T, bool) {
	i, ok := p.first()
	if !ok {
		return *new(T), false
	}
	v := p.l[i]
	p.l = slices.Delete(p.l, i, i+1)
	return v, true
}

// order is all, as they would be popped.
func (p *plain[T]) order() []T {
	rest := plain[T]{p.less, slices.Clone(p.l)}
	var out []T
	for v, ok := rest.pop(); ok; v, ok = rest.pop() {
		out = append(out, v)
	}
	return out
}

// drop takes out those that which tells true of.
func (p *plain[T]) drop(which func(v T) bool) int {
	n := len(p.l)
	p.l = slices.DeleteFunc(p.l, which)
	return n - len(p.l)
}

// same fails unless the heap has what the plain one has, in its order.
func same[T comparable](t *testing.T, h *heap.Heap[T], p *plain[T]) {
	t.Helper()
	if h.Len() != len(p.l) {
		t.Fatalf("Len: %d, want %d", h.Len(), len(p.l))
	}
	v, ok := h.Peek()
	if want, wantOK := p.peek(); v != want || ok != wantOK {
		t.Fatalf("Peek: %v, %v, want %v, %v", v, ok, want, wantOK)
	}
	if got, want := slices.Collect(h.All()), p.order(); !slices.Equal(got, want) {
		t.Fatalf("All: %v, want %v", got, want)
	}
	if h.Len() != len(p.l) {
		t.Fatalf("Len behind Peek and All: %d, want %d", h.Len(), len(p.l))
	}
}

// pops fails unless both pop the same, and have the same left.
func pops[T comparable](t *testing.T, h *heap.Heap[T], p *plain[T]) {
	t.Helper()
	v, ok := h.Pop()
	if want, wantOK := p.pop(); v != want || ok != wantOK {
		t.Fatalf("Pop: %v, %v, want %v, %v", v, ok, want, wantOK)
	}
	if h.Len() != len(p.l) {
		t.Fatalf("Len behind Pop: %d, want %d", h.Len(), len(p.l))
	}
}

// filled is a heap of these, put in one by one.
func filled[T any](less func(a, b T) bool, l []T) *heap.Heap[T] {
	h := heap.New(less)
	for _, v := range l {
		h.Push(v)
	}
	return h
}

// emptied is what is popped till there is none; it fails unless Len tells at each what is left.
func emptied[T any](t *testing.T, h *heap.Heap[T]) []T {
	t.Helper()
	var out []T
	for left := h.Len(); left > 0; left-- {
		v, ok := h.Pop()
		if !ok || h.Len() != left-1 {
			t.Fatalf("Pop of %d: %v, %v, %d left", left, v, ok, h.Len())
		}
		out = append(out, v)
	}
	if v, ok := h.Pop(); ok {
		t.Fatalf("Pop of none: %v", v)
	}
	return out
}

// rows goes through all rows of n keys below most.
func rows(n, most int, each func(keys []int)) {
	keys := make([]int, n)
	for {
		each(keys)
		i := 0
		for i < n && keys[i] == most-1 {
			keys[i] = 0
			i++
		}
		if i == n {
			return
		}
		keys[i]++
	}
}
