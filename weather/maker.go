package weather

import (
	"strings"

	"spinney/api"
	"spinney/arbor"
	"spinney/trellis"
)

// What the numbers are below: of parcels, of a parcel's bits, of what a crash keeps, of kinds of operations, of ints; and the bytes behind a key's prefix.
const (
	parcels = 16
	bits    = 512
	keeps   = 1 << 30
	ops     = 4
	ints    = 10
	letters = "abcd"
)

// maker: of acts of a tree, by a sky.
type maker struct {
	*Sky
	tree    trellis.Tree
	devices []int
}

// over is the maker of a tree, by the sky of a seed.
func over(t trellis.Tree, seed uint64) *maker {
	m := &maker{Sky: New(seed), tree: t}
	for n, x := range t {
		if x.Kind == trellis.Device {
			m.devices = append(m.devices, n)
		}
	}
	return m
}

// act is one of a kind.
func (m *maker) act(kind int) arbor.Act {
	x := arbor.Act{Kind: kind}
	switch kind {
	case arbor.Write:
		x.A = m.device()
		x.Op = m.op(x.A)
	case arbor.Deliver, arbor.Lose, arbor.Double:
		x.A = m.Below(parcels)
	case arbor.Turn:
		x.A = m.Below(parcels)
		x.B = m.Below(bits)
	case arbor.Crash:
		x.A = m.node()
		x.B = m.Below(keeps)
	case arbor.Move:
		x.A = m.device()
		x.B = m.node()
	default: // Tick, Start, Cut, Fail
		x.A = m.node()
	}
	return x
}

func (m *maker) node() int {
	return m.Below(len(m.tree))
}

// device is one of the devices, the root where there is none.
func (m *maker) device() int {
	if len(m.devices) == 0 {
		return 0
	}
	return m.devices[m.Below(len(m.devices))]
}

// op is an operation upon a key of a node.
func (m *maker) op(node int) api.Op {
	o := api.Op{Kind: 1 + m.Below(ops)}
	o.Key = m.key(node)
	switch o.Kind {
	case api.Put, api.Add:
		o.A = m.int()
	case api.Cas:
		o.A = m.int()
		o.B = m.int()
	}
	return o
}

// key is one that a node's reach has, if it has any.
func (m *maker) key(node int) string {
	prefix := ""
	if l := m.tree[node].Reach; len(l) > 0 {
		prefix = l[m.Below(len(l))]
	}
	if len(prefix) == api.MaxKey {
		return strings.Clone(prefix)
	}
	return prefix + string(letters[m.Below(len(letters))])
}

func (m *maker) int() api.Value {
	return api.Value{Kind: api.Int, Num: m.Below(ints)}
}
