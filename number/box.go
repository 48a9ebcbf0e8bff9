package number

// BoxExceeds reports whether there are more ways than a limit to choose so many ints from -most to most, which is not negative.
func BoxExceeds(most, count, limit int) bool {
	width := 2*min(most, limit) + 1
	ways := 1
	for range count {
		ways *= width
		if ways > limit {
			return true
		}
	}
	return ways > limit
}
