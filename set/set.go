// Package set is layer 1: see shared/doc/01-set.md.
package set

import "math/bits"

// Set is numbers from 0 to 63: bit i says whether i is in it.
type Set uint64

// most is the greatest number that may be in a set.
const most = 63

// bit is the set of i alone. It is empty if i may be in none, so that no
// caller has to look at i's bounds again.
func bit(i int) Set {
	if i < 0 || i > most {
		return 0
	}
	return 1 << uint(i)
}

// Of is all numbers of l that may be in a set.
func Of(l ...int) Set {
	var s Set
	for _, i := range l {
		s = With(s, i)
	}
	return s
}

// Has tells whether i is in s.
func Has(s Set, i int) bool {
	return s&bit(i) != 0
}

// With is s and i; s, if i may be in none.
func With(s Set, i int) Set {
	return s | bit(i)
}

// Less is s without i.
func Less(s Set, i int) Set {
	return s &^ bit(i)
}

// Items is all numbers of s, rising.
func Items(s Set) []int {
	l := make([]int, 0, Count(s))
next:
	if s == 0 {
		return l
	}
	i := First(s)
	l = append(l, i)
	s = Less(s, i)
	goto next
}

// First is the least number of s, -1 if there is none.
func First(s Set) int {
	if s == 0 {
		return -1
	}
	return bits.TrailingZeros64(uint64(s))
}

// Count is how many numbers are in s.
func Count(s Set) int {
	return bits.OnesCount64(uint64(s))
}
