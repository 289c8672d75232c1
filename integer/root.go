package integer

// root is the root, rounded down, by Newton's steps: they descend from a
// number that is greater until they have arrived. The root of the leading half
// of the digits, which is found in the same way, tells where to begin.
func root(a natural) natural {
	if len(a) <= 2 {
		return ofValue(rootMachine(a.machine()))
	}
	places := (len(a) + 1) / 4
	guess := sum(root(a[2*places:]), natural{1}).shifted(places)
	for {
		q, _ := divide(a, guess)
		next, _ := divideShort(sum(guess, q), 2)
		if compare(next, guess) >= 0 {
			return guess
		}
		guess = next
	}
}
