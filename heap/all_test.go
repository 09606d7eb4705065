package heap_test

import (
	"slices"
	"testing"

	"skep/heap"
)

// sorted is those things by key, those alike as they were.
func sorted(l []thing) []thing {
	out := slices.Clone(l)
	slices.SortStableFunc(out, func(a, b thing) int { return a.key - b.key })
	return out
}

// told fails unless All tells these, whole, and broken off behind each; and again.
func told(t *testing.T, h *heap.Heap[thing], want []thing) {
	t.Helper()
	all := h.All()
	for range 2 {
		if got := slices.Collect(all); !slices.Equal(got, want) || h.Len() != len(want) {
			t.Fatalf("All: %v, want %v", got, want)
		}
		for n := 1; n <= len(want); n++ {
			var got []thing
			for v := range all {
				got = append(got, v)
				if len(got) == n {
					break
				}
			}
			if !slices.Equal(got, want[:n]) || h.Len() != len(want) {
				t.Fatalf("All, broken off behind %d: %v, want %v", n, got, want[:n])
			}
		}
	}
}

// P10.2: All of each small size, with each row of keys: what Pop would take, and Pop takes it behind that.
func TestAllOfFew(t *testing.T) {
	for n := range 7 {
		rows(n, 3, func(keys []int) {
			l := things(keys...)
			h := filled(byKey, l)
			told(t, h, sorted(l))
			if got := emptied(t, h); !slices.Equal(got, sorted(l)) {
				t.Fatalf("popped %v, want %v", got, sorted(l))
			}
		})
	}
}

// P10.2: All of many, ahead of each of some pops.
func TestAllOfMany(t *testing.T) {
	var luck chance = 23
	var keys []int
	for range 3000 {
		keys = append(keys, luck.below(50))
	}
	l := things(keys...)
	h, want := filled(byKey, l), sorted(l)
	for i := range 40 {
		if got := slices.Collect(h.All()); !slices.Equal(got, want[i:]) {
			t.Fatalf("All behind %d pops is not in order", i)
		}
		if v, ok := h.Pop(); v != want[i] || !ok {
			t.Fatalf("%v, want %v", v, want[i])
		}
	}
}

// P10.2, R6: it can be gone through within itself; what is put in another heap meanwhile turns nothing here.
func TestAllWithinAll(t *testing.T) {
	l := things(2, 0, 1, 0, 2, 1)
	h, other, want := filled(byKey, l), heap.New(byKey), sorted(l)
	all := h.All()
	i := 0
	for v := range all {
		if got := slices.Collect(all); v != want[i] || !slices.Equal(got, want) {
			t.Errorf("%v, %v, want %v", v, got, want)
		}
		other.Push(v)
		if first, ok := h.Peek(); first != want[0] || !ok {
			t.Error(first)
		}
		i++
	}
	if i != len(want) || h.Len() != 6 || !slices.Equal(emptied(t, other), want) {
		t.Error(i, h.Len())
	}
}

// P10.2: All behind one that was broken off, a Push and a Pop.
func TestAllAgain(t *testing.T) {
	h := filled(byKey, things(1, 0, 1))
	for v := range h.All() {
		if v.number != 1 {
			t.Error(v)
		}
		break
	}
	h.Push(thing{key: 0, number: 3})
	told(t, h, []thing{{key: 0, number: 1}, {key: 0, number: 3}, {key: 1, number: 0}, {key: 1, number: 2}})
	h.Pop()
	told(t, h, []thing{{key: 0, number: 3}, {key: 1, number: 0}, {key: 1, number: 2}})
}

// dropped fails unless a Drop of those whose bit is set takes just these, and the others come out in order, with others that are put in and popped behind it.
func dropped(t *testing.T, l []thing, bits int) {
	t.Helper()
	h, p := filled(byKey, l), &plain[thing]{byKey, slices.Clone(l)}
	which := func(v thing) bool { return bits>>v.number&1 == 1 }
	if got, want := h.Drop(which), p.drop(which); got != want {
		t.Fatalf("Drop: %d, want %d", got, want)
	}
	same(t, h, p)
	for i, key := range []int{1, 0, 2, 1} {
		v := thing{key: key, number: 100 + i}
		h.Push(v)
		p.push(v)
		if i == 1 {
			pops(t, h, p)
		}
		same(t, h, p)
	}
	if got := h.Drop(which); got != 0 {
		t.Fatalf("Drop once more: %d", got)
	}
	want := p.order()
	if got := emptied(t, h); !slices.Equal(got, want) {
		t.Fatalf("behind Drop: %v, want %v", got, want)
	}
}

// P10.2: Drop of none, all, some and each single one, of each row of a few.
func TestDropOfFew(t *testing.T) {
	for n := range 6 {
		rows(n, 3, func(keys []int) {
			l := things(keys...)
			for bits := range 1 << n {
				dropped(t, l, bits)
			}
		})
	}
}

// P10.2: Drop of each single one of more, those alike among them, and of each one but it.
func TestDropOfOne(t *testing.T) {
	var luck chance = 41
	for range 10 {
		var keys []int
		for range 25 {
			keys = append(keys, luck.below(4))
		}
		for i := range keys {
			dropped(t, things(keys...), 1<<i)
			dropped(t, things(keys...), 1<<len(keys)-1-1<<i)
		}
	}
}

// P10.2: Drop of many, over and over, till none is left.
func TestDropOfMany(t *testing.T) {
	var luck chance = 2
	var keys []int
	for range 5000 {
		keys = append(keys, luck.below(30))
	}
	l := things(keys...)
	h, left := filled(byKey, l), sorted(l)
	for _, by := range []int{11, 7, 5, 3, 2, 1} {
		which := func(v thing) bool { return v.number%by == 0 }
		rest := slices.DeleteFunc(slices.Clone(left), which)
		if n := h.Drop(which); n != len(left)-len(rest) || h.Len() != len(rest) {
			t.Fatalf("Drop by %d: %d, %d left, want %d", by, n, h.Len(), len(rest))
		}
		if left = rest; !slices.Equal(slices.Collect(h.All()), left) {
			t.Fatalf("behind the Drop by %d the others are not in order", by)
		}
	}
	none(t, h)
}

// P10.2, R4: each is asked about once, in Pop's order; and the heap tells meanwhile what it had.
func TestDropAsksOnce(t *testing.T) {
	l := things(3, 1, 2, 1, 3, 0, 1)
	h, want := filled(byKey, l), sorted(l)
	var asked []thing
	n := h.Drop(func(v thing) bool {
		asked = append(asked, v)
		if first, ok := h.Peek(); first != want[0] || !ok || h.Len() != len(want) {
			t.Error(first, ok, h.Len())
		}
		return len(asked)%2 == 1
	})
	if n != 4 || !slices.Equal(asked, want) {
		t.Errorf("%d, %v, want %v", n, asked, want)
	}
	told(t, h, []thing{want[1], want[3], want[5]})
}
