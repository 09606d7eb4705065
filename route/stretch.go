package route

import (
	"iter"
	"sort"
)

// stretch is the ticks from one on, ahead of another.
// Lists of stretches rise, and no two of one list touch: each is as long as it can be.
type stretch struct {
	from, to int
}

// listed is all stretches that an iterator tells.
func listed(all iter.Seq2[int, int]) []stretch {
	var out []stretch
	for from, to := range all {
		out = append(out, stretch{from, to})
	}
	return out
}

// each goes through a list's stretches.
func each(l []stretch) iter.Seq2[int, int] {
	return func(yield func(int, int) bool) {
		for _, s := range l {
			if !yield(s.from, s.to) {
				return
			}
		}
	}
}

// shared is what two lists have in common. No two of its stretches touch: ticks that follow each other lie in one stretch of either list.
func shared(a, b []stretch) []stretch {
	var out []stretch
	for _, s := range a {
		for from, to := range s.among(b) {
			out = append(out, stretch{from, to})
		}
	}
	return out
}

// among goes through what a stretch has in common with those of a list.
func (s stretch) among(l []stretch) iter.Seq2[int, int] {
	return func(yield func(int, int) bool) {
		for _, o := range l[endsBehind(l, s.from):] {
			if o.from >= s.to || !yield(max(s.from, o.from), min(s.to, o.to)) {
				return
			}
		}
	}
}

// holding is the place in a list of the stretch that has a tick; false, if none has it.
func holding(l []stretch, tick int) (int, bool) {
	i := endsBehind(l, tick)
	if i == len(l) || l[i].from > tick {
		return 0, false
	}
	return i, true
}

// endsBehind is the place of the first stretch that ends behind a tick; it is looked for by halves, for a list may be very long.
func endsBehind(l []stretch, tick int) int {
	return sort.Search(len(l), func(i int) bool { return l[i].to > tick })
}
