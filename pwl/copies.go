package pwl

import (
	"slices"

	"shunt/api"
)

// copyOf is f in memory of its own: whoever handed it in may write over it.
func copyOf(f api.Flat) api.Flat {
	f.Nodes = slices.Clone(f.Nodes)
	f.Devs = slices.Clone(f.Devs)
	for k := range f.Devs {
		d := &f.Devs[k]
		d.Nodes = slices.Clone(d.Nodes)
		d.Wave.Vals = slices.Clone(d.Wave.Vals)
		d.Wave.Steps = slices.Clone(d.Wave.Steps)
		d.Model.G = slices.Clone(d.Model.G)
		d.Model.V = slices.Clone(d.Model.V)
	}
	return f
}
