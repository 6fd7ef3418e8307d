package vault

import (
	"slices"

	"sentinel/api"
)

// cells is how many a device has: two for each account, two for the era.
const cells = 2*api.Accounts + 2

// device is what is kept for good, and what lies on the way there.
type device struct {
	cells [cells]api.Cell
	fails bool // when left steps are done
	left  int
	dead  bool
}

// fail tells when the device dies.
func (d *device) fail(after int) {
	d.fails = after >= 0
	d.left = after
}

// step does one to a cell, unless the device dies ahead of it. A dead one is not asked.
func (d *device) step(place int, do func(c *api.Cell)) bool {
	if d.fails && d.left == 0 {
		d.dead = true
		return false
	}
	d.left--
	do(&d.cells[place])
	return true
}

// write lays bytes into a cell, and then makes them last.
func (d *device) write(place int, b []byte) bool {
	lay := func(c *api.Cell) { c.Next, c.Fresh = b, true }
	keep := func(c *api.Cell) { *c = api.Cell{Safe: c.Next} }
	return d.step(place, lay) && d.step(place, keep)
}

// settle makes last, of what was laid only, as many bytes as torn tells, and lets the device live.
func (d *device) settle(torn []int) {
	for i := range d.cells {
		c := &d.cells[i]
		if !c.Fresh {
			continue
		}
		n := 0
		if len(torn) > 0 {
			n = min(max(torn[0], 0), len(c.Next))
			torn = torn[1:]
		}
		behind := c.Safe[min(n, len(c.Safe)):]
		*c = api.Cell{Safe: slices.Concat(c.Next[:n], behind)}
	}
	d.fail(-1)
	d.dead = false
}

// copies are the cells, in memory of their own.
func (d *device) copies() []api.Cell {
	out := make([]api.Cell, len(d.cells))
	for i, c := range d.cells {
		out[i] = api.Cell{Safe: slices.Clone(c.Safe), Next: slices.Clone(c.Next), Fresh: c.Fresh}
	}
	return out
}
