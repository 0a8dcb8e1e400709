package place_test

import (
	"testing"

	"bolthole/api"
)

// What README.md says of this package.
func TestReadme(t *testing.T) {
	l := []api.Edge{edge(0, 2, 9)}
	checks(t, l, 3, api.OK)
	checks(t, l, 2, api.ErrRange)
	f := api.Flow{Blocks: []api.Block{{}, {}, {}, {Func: 1}}, Firsts: []int{0, 3}}
	orders(t, "as it stood", f, nil, part(0, 0, 1, 2), part(1, 3))
	orders(t, "a chain", f, l, part(0, 0, 2, 1), part(1, 3))
	orders(t, "a hot function", f, []api.Edge{edge(3, 3, 9)}, part(1, 3), part(0, 0, 1, 2))
	unordered(t, "a function without blocks", api.Flow{Firsts: []int{0}}, nil, api.ErrOrder)
}
