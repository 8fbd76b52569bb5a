package cell

import (
	"sandglass/api"
	"sandglass/exact"
	"sandglass/fixed"
	"sandglass/gcra"
	"sandglass/ring"
)

// kind is what is told of cells of one kind of policy.
type kind interface {
	may(p api.Policy, c api.Cell) bool
	ask(p api.Policy, c api.Cell, t int, w int) (api.Cell, api.Verdict)
	ends(p api.Policy, c api.Cell) int
}

// kinds tells each kind by its number.
func kinds() map[int]kind {
	return map[int]kind{
		api.Bucket: bucketKind{},
		api.Fixed:  fixedKind{},
		api.Ring:   ringKind{},
		api.Exact:  exactKind{},
	}
}

// kindOf tells a policy's kind.
func kindOf(p api.Policy) kind {
	if k, there := kinds()[p.Kind]; there {
		return k
	}
	return noKind{}
}

type bucketKind struct{}

func (bucketKind) may(p api.Policy, c api.Cell) bool {
	return gcra.May(p, c)
}

func (bucketKind) ask(p api.Policy, c api.Cell, t int, w int) (api.Cell, api.Verdict) {
	return gcra.Ask(p, c, t, w)
}

func (bucketKind) ends(p api.Policy, c api.Cell) int {
	return gcra.Ends(p, c)
}

type fixedKind struct{}

func (fixedKind) may(p api.Policy, c api.Cell) bool {
	return fixed.May(p, c)
}

func (fixedKind) ask(p api.Policy, c api.Cell, t int, w int) (api.Cell, api.Verdict) {
	return fixed.Ask(p, c, t, w)
}

func (fixedKind) ends(p api.Policy, c api.Cell) int {
	return fixed.Ends(p, c)
}

type ringKind struct{}

func (ringKind) may(p api.Policy, c api.Cell) bool {
	return ring.May(p, c)
}

func (ringKind) ask(p api.Policy, c api.Cell, t int, w int) (api.Cell, api.Verdict) {
	return ring.Ask(p, c, t, w)
}

func (ringKind) ends(p api.Policy, c api.Cell) int {
	return ring.Ends(p, c)
}

type exactKind struct{}

func (exactKind) may(p api.Policy, c api.Cell) bool {
	return exact.May(p, c)
}

func (exactKind) ask(p api.Policy, c api.Cell, t int, w int) (api.Cell, api.Verdict) {
	return exact.Ask(p, c, t, w)
}

func (exactKind) ends(p api.Policy, c api.Cell) int {
	return exact.Ends(p, c)
}

// noKind is that of a policy that may not be: no cell is one of it.
type noKind struct{}

func (noKind) may(p api.Policy, c api.Cell) bool {
	return false
}

func (noKind) ask(p api.Policy, c api.Cell, t int, w int) (api.Cell, api.Verdict) {
	return c, api.Verdict{}
}

func (noKind) ends(p api.Policy, c api.Cell) int {
	return 0
}
