// Package block is layer 1: a simulated block device with pending writes, power loss and torn writes. See shared/doc/01-block.md.
package block

import (
	"columbary/api"
)

type content [api.BlockSize]byte

type write struct {
	at   int
	data content
}

// Disk has each block twice: Read tells the pending writes as well, and Restart must still know what was there without them.
type Disk struct {
	durable []content
	latest  []content
	pending []write
	ops     int
	fuse    int // the operation, counted from now on, in which the power fails; 0: in none
	off     bool
}

func New(n int) (*Disk, api.Errno) {
	if n < 1 || n > api.MaxBlocks {
		return nil, api.ErrArg
	}
	return &Disk{durable: make([]content, n), latest: make([]content, n)}, api.OK
}

func (d *Disk) Len() int {
	if d == nil {
		return 0
	}
	return len(d.latest)
}

func (d *Disk) Wait() int {
	if d == nil {
		return 0
	}
	return len(d.pending)
}

// Ops counts the operation in which the power failed, too: with a number of Ops a caller knows which ones can be armed.
func (d *Disk) Ops() int {
	if d == nil {
		return 0
	}
	return d.ops
}

func (d *Disk) On() bool {
	return d != nil && !d.off
}

// Read tells pending writes, too: only power loss shows what is not durable.
func (d *Disk) Read(i int) ([]byte, api.Errno) {
	if e := d.refusal(i); e != api.OK {
		return nil, e
	}
	p := make([]byte, api.BlockSize)
	copy(p, d.latest[i][:])
	return p, api.OK
}

// Write is pending also if the power fails in it: that block may be the torn one.
func (d *Disk) Write(i int, p []byte) api.Errno {
	if e := d.refusal(i); e != api.OK {
		return e
	}
	if len(p) > api.BlockSize {
		return api.ErrLong
	}
	w := write{at: i}
	copy(w.data[:], p)
	d.pending = append(d.pending, w)
	d.latest[i] = w.data
	return d.begin()
}

// Sync leaves all writes pending if the power fails in it: Restart says how many of them arrived.
func (d *Disk) Sync() api.Errno {
	if d == nil {
		return api.ErrNone
	}
	if d.off {
		return api.ErrCrash
	}
	if e := d.begin(); e != api.OK {
		return e
	}
	d.settle(len(d.pending))
	d.pending = nil
	return api.OK
}

// Arm is not rejected while the power is off, but Restart disarms the disk.
func (d *Disk) Arm(n int) api.Errno {
	if d == nil {
		return api.ErrNone
	}
	if n < 0 {
		return api.ErrArg
	}
	d.fuse = n
	return api.OK
}

// Restart is where the caller chooses what the power loss spared: keep pending writes, and torn bytes of the next one.
func (d *Disk) Restart(keep, torn int) api.Errno {
	if d == nil {
		return api.ErrNone
	}
	keep = clamp(keep, len(d.pending))
	d.settle(keep)
	if keep < len(d.pending) {
		next := &d.pending[keep]
		copy(d.durable[next.at][:], next.data[:clamp(torn, api.BlockSize)])
	}
	for _, w := range d.pending {
		d.latest[w.at] = d.durable[w.at]
	}
	d.pending = nil
	d.fuse = 0
	d.off = false
	return api.OK
}

// refusal is asked before begin: what is rejected is not counted.
func (d *Disk) refusal(i int) api.Errno {
	switch {
	case d == nil:
		return api.ErrNone
	case i < 0 || i >= len(d.latest):
		return api.ErrArg
	case d.off:
		return api.ErrCrash
	}
	return api.OK
}

// begin counts an operation, and burns the fuse: the power may fail in it.
func (d *Disk) begin() api.Errno {
	d.ops++
	if d.fuse == 0 {
		return api.OK
	}
	d.fuse--
	if d.fuse > 0 {
		return api.OK
	}
	d.off = true
	return api.ErrCrash
}

// settle goes in the order of the writes, since several may be to one block.
func (d *Disk) settle(n int) {
	for _, w := range d.pending[:n] {
		d.durable[w.at] = w.data
	}
}

func clamp(n, most int) int {
	return max(0, min(n, most))
}
