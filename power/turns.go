package power

import "slices"

// In which lists a validator stands; in both, if it stays.
const (
	inWas = 1 << iota
	inNow
)

// only tells those who stand on that side alone; sorted, as a map is gone through in no order.
func only(sides map[uint64]int, side int) []uint64 {
	var all []uint64
	for v, at := range sides {
		if at == side {
			all = append(all, v)
		}
	}
	slices.Sort(all)
	return all
}
