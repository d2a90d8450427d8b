package slate

import (
	"maps"

	"spinney/api"
)

// write is one of a block.
type write struct {
	file, block int
	what        [api.Block]byte
}

// disk has, by their numbers, the files that have blocks, and of each the blocks that were written.
type disk map[int]map[int][api.Block]byte

// do does a write upon it.
func (d disk) do(w write) {
	if d[w.file] == nil {
		d[w.file] = map[int][api.Block]byte{}
	}
	d[w.file][w.block] = w.what
}

// copied is the same one, that is changed of itself alone.
func (d disk) copied() disk {
	own := disk{}
	for file, written := range d {
		own[file] = maps.Clone(written)
	}
	return own
}
