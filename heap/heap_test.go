package heap_test

import (
	"slices"
	"testing"

	"skep/heap"
)

// The chapter's example.
func TestExample(t *testing.T) {
	h := heap.New(func(a, b int) bool { return a%10 < b%10 })
	for _, v := range []int{21, 11, 40} {
		h.Push(v)
	}
	for i, want := range []int{40, 21, 11} {
		if v, ok := h.Pop(); v != want || !ok || h.Len() != 2-i {
			t.Errorf("%d, %v, %d left, want %d", v, ok, h.Len(), want)
		}
	}
}

// P10.1: a heap of texts by their length, written out, with Len behind each call.
func TestWrittenOut(t *testing.T) {
	h := heap.New(func(a, b string) bool { return len(a) < len(b) })
	for i, v := range []string{"ccc", "bb", "dd", "", "aaa", "e"} {
		h.Push(v)
		if h.Len() != i+1 {
			t.Errorf("Len: %d", h.Len())
		}
	}
	for i, want := range []string{"", "e", "bb", "dd", "ccc", "aaa"} {
		for range 3 {
			if v, ok := h.Peek(); v != want || !ok || h.Len() != 6-i {
				t.Errorf("Peek: %q, %v, %d left, want %q", v, ok, h.Len(), want)
			}
		}
		if v, ok := h.Pop(); v != want || !ok || h.Len() != 5-i {
			t.Errorf("Pop: %q, %v, %d left, want %q", v, ok, h.Len(), want)
		}
	}
}

// none fails unless nothing is in, asked several times.
func none[T comparable](t *testing.T, h *heap.Heap[T]) {
	t.Helper()
	for range 3 {
		v, ok := h.Peek()
		if v != *new(T) || ok || h.Len() != 0 {
			t.Fatalf("Peek of none: %v, %v, %d", v, ok, h.Len())
		}
		v, ok = h.Pop()
		if v != *new(T) || ok || h.Len() != 0 {
			t.Fatalf("Pop of none: %v, %v, %d", v, ok, h.Len())
		}
		for v := range h.All() {
			t.Fatalf("All of none: %v", v)
		}
		if n := h.Drop(func(v T) bool { return true }); n != 0 || h.Len() != 0 {
			t.Fatalf("Drop of none: %d, %d left", n, h.Len())
		}
	}
}

// refills fails unless a heap that is emptied over and over, by Pop or by Drop, is as a new one each time.
func refills[T comparable](t *testing.T, k kind[T]) {
	var luck chance = 5
	h := heap.New(k.less)
	none(t, h)
	for n := range 20 {
		p := &plain[T]{less: k.less}
		for range n {
			v := k.draw(&luck)
			h.Push(v)
			p.push(v)
			same(t, h, p)
		}
		if n%3 == 2 {
			if got := h.Drop(func(v T) bool { return true }); got != n {
				t.Fatalf("%s: Drop: %d, want %d", k.name, got, n)
			}
		}
		for h.Len() > 0 {
			pops(t, h, p)
		}
		none(t, h)
	}
}

// P10.1: Pop and Peek of an empty heap, and of one that was emptied and filled again.
func TestEmptied(t *testing.T) {
	for _, k := range numberKinds() {
		refills(t, k)
	}
	for _, k := range textKinds() {
		refills(t, k)
	}
	for _, k := range thingKinds() {
		refills(t, k)
	}
}

// P10.1: zero values that were put in are told with true.
func TestZeroValues(t *testing.T) {
	h := filled(func(a, b int) bool { return a < b }, []int{0, 0})
	for left := 2; left > 0; left-- {
		if v, ok := h.Peek(); v != 0 || !ok {
			t.Error(v, ok)
		}
		if v, ok := h.Pop(); v != 0 || !ok || h.Len() != left-1 {
			t.Error(v, ok, h.Len())
		}
	}
	none(t, h)
}

// scripted fails unless a heap tells what the plain one does, whatever was pushed, popped and dropped ahead.
func scripted[T comparable](t *testing.T, k kind[T]) {
	var luck chance = 17
	for range 40 {
		h, p := heap.New(k.less), &plain[T]{less: k.less}
		rising := 2 + luck.below(5)
		for range 60 {
			switch what := luck.below(10); {
			case what < rising:
				v := k.draw(&luck)
				h.Push(v)
				p.push(v)
			case what < 9:
				pops(t, h, p)
			default:
				some := map[T]int{}
				for _, v := range p.l {
					some[v] = luck.below(3)
				}
				which := func(v T) bool { return some[v] == 1 }
				if got, want := h.Drop(which), p.drop(which); got != want {
					t.Fatalf("%s: Drop: %d, want %d", k.name, got, want)
				}
			}
			same(t, h, p)
		}
		for h.Len() > 0 {
			pops(t, h, p)
		}
		none(t, h)
	}
}

// P10.1, P10.2: of those alike the one that was put in first comes out first, whatever was done between.
func TestScripts(t *testing.T) {
	for _, k := range numberKinds() {
		scripted(t, k)
	}
	for _, k := range textKinds() {
		scripted(t, k)
	}
	for _, k := range thingKinds() {
		scripted(t, k)
	}
}

// R4: two heaps have nothing in common, with one order or with two.
func TestNothingInCommon(t *testing.T) {
	up := func(a, b int) bool { return a%10 < b%10 }
	for _, other := range []func(a, b int) bool{up, func(a, b int) bool { return a > b }} {
		var luck chance = 3
		h, p := heap.New(up), &plain[int]{less: up}
		i, q := heap.New(other), &plain[int]{less: other}
		for range 400 {
			switch v := luck.below(100); luck.below(7) {
			case 0, 1:
				h.Push(v)
				p.push(v)
			case 2, 3:
				i.Push(v)
				q.push(v)
			case 4:
				pops(t, h, p)
			case 5:
				pops(t, i, q)
			default:
				which := func(w int) bool { return w%7 == v%7 }
				if got, want := h.Drop(which), p.drop(which); got != want {
					t.Fatalf("Drop: %d, want %d", got, want)
				}
			}
			same(t, h, p)
			same(t, i, q)
		}
	}
}

// P10.1: items of any type, lists and functions among them, come out as they were put in.
func TestAnyType(t *testing.T) {
	l := heap.New(func(a, b []int) bool { return len(a) < len(b) })
	long, short := []int{1, 2, 3}, []int{4}
	l.Push(long)
	l.Push(short)
	if v, ok := l.Pop(); !ok || &v[0] != &short[0] {
		t.Error(v)
	}
	if v, ok := l.Pop(); !ok || &v[0] != &long[0] || len(v) != 3 {
		t.Error(v)
	}
	f := heap.New(func(a, b func() int) bool { return a() < b() })
	for _, n := range []int{5, 2, 9} {
		f.Push(func() int { return n })
	}
	for _, want := range []int{2, 5, 9} {
		if v, ok := f.Pop(); !ok || v() != want {
			t.Error(ok, want)
		}
	}
	if v, ok := f.Pop(); v != nil || ok {
		t.Error("a function out of none")
	}
	n := heap.New(func(a, b struct{}) bool { return false })
	for range 10 {
		n.Push(struct{}{})
	}
	if n.Len() != 10 || len(emptied(t, n)) != 10 {
		t.Error(n.Len())
	}
}

// R1: without a function nothing panics: all are alike, and none is dropped.
func TestNoFunction(t *testing.T) {
	row := []int{3, 1, 2, 1}
	h := filled(nil, row)
	if n := h.Drop(nil); n != 0 || h.Len() != 4 {
		t.Error(n, h.Len())
	}
	if got := emptied(t, h); !slices.Equal(got, row) {
		t.Error(got)
	}
}

// R1: every call ends and loses nothing, even if less is no order.
func TestNoOrder(t *testing.T) {
	var luck chance = 11
	for _, less := range []func(a, b int) bool{
		func(a, b int) bool { return true },
		func(a, b int) bool { return a != b },
		func(a, b int) bool { return (a-b+30)%3 == 1 },
		func(a, b int) bool { return luck.below(2) == 0 },
	} {
		var row []int
		for i := range 30 {
			row = append(row, i)
		}
		h := filled(less, row)
		all := slices.Sorted(h.All())
		if n := h.Drop(func(v int) bool { return v >= 20 }); n != 10 || !slices.Equal(all, row) {
			t.Error(n, all)
		}
		if got := emptied(t, h); !slices.Equal(slices.Sorted(slices.Values(got)), row[:20]) {
			t.Error(got)
		}
	}
}
