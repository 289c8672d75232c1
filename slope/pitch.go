package slope

import (
	"cmp"

	"kingpost/api"
)

// pitch is a pitch that is given by its parts.
type pitch struct{ rise, run int }

func (p pitch) check() api.Errno {
	if !isPart(p.rise) || !isPart(p.run) {
		return api.ErrRange
	}
	return api.OK
}

func isPart(n int) bool { return n >= 1 && n <= api.MaxRise }

// compare is asked of pitches that are right, of which the products are short.
func (p pitch) compare(q pitch) int {
	return cmp.Compare(p.rise*q.run, q.rise*p.run)
}
