package walk

import "math/bits"

// nowhere is the place of the farthest failure while no terminal has failed.
const nowhere = -1

// farthest is the greatest place at which a terminal failed, and a bit for each that failed there.
type farthest struct {
	place  int
	failed uint64
}

func (f *farthest) add(terminal, place int) {
	if place > f.place {
		*f = farthest{place: place}
	}
	if place == f.place {
		f.failed |= 1 << terminal
	}
}

// numbers gives the numbers of those that failed, by rising numbers.
func (f *farthest) numbers() []int {
	var numbers []int
	for left := f.failed; left != 0; left &= left - 1 {
		numbers = append(numbers, bits.TrailingZeros64(left))
	}
	return numbers
}
