package valid

import (
	"maps"
	"slices"

	"slotcode/api"
	"slotcode/insn"
	"slotcode/layout"
	"slotcode/object"
	"slotcode/ops"
	"slotcode/slot"
)

// stackRegister is the register that no instruction may write.
const stackRegister = api.Registers - 1

// condition is what a valid object fulfils. If it is broken, it tells the slot.
type condition func() (slot int, e api.Errno)

// checker checks an object. The instructions and the slots at which they start
// are known as soon as it is known that the code consists of instructions.
type checker struct {
	o      api.Object
	code   []api.Ins
	starts []int
}

// check returns the slot and the error of the first condition that is broken.
// Each condition may rely on those before it.
func (c *checker) check() (slot int, e api.Errno) {
conditions:
	for _, holds := range []condition{c.object, c.instructions, c.fields, c.relocs, c.jumps, c.writes, c.end} {
		if slot, e = holds(); e != api.OK {
			break conditions
		}
	}
	return slot, e
}

func (c *checker) object() (int, api.Errno) { return 0, object.Check(c.o) }

func (c *checker) instructions() (at int, e api.Errno) {
	c.code, at, e = slot.All(c.o.Code)
	c.starts, _ = layout.Starts(c.code)
	return at, e
}

func (c *checker) fields() (int, api.Errno) {
	return c.each(func(_ int, x api.Ins) bool { return !refers(x) || x.Imm == 0 }, api.ErrField)
}

func (c *checker) relocs() (int, api.Errno) {
	// The open slots are those that only a relocation or only an instruction has.
	open := map[int]bool{}
	for _, r := range c.o.Relocs {
		open[r.Slot] = true
	}
	for i, x := range c.code {
		if !refers(x) {
			continue
		}
		if start := c.starts[i]; open[start] {
			delete(open, start)
		} else {
			open[start] = true
		}
	}
	if len(open) == 0 {
		return 0, api.OK
	}
	return slices.Min(slices.Collect(maps.Keys(open))), api.ErrReloc
}

func (c *checker) jumps() (int, api.Errno) {
	_, wrong := Targets(c.code)
	return c.each(func(i int, _ api.Ins) bool { return i != wrong }, api.ErrJump)
}

func (c *checker) writes() (int, api.Errno) {
	return c.each(func(_ int, x api.Ins) bool { return insn.Writes(x) != stackRegister }, api.ErrWrite)
}

func (c *checker) end() (int, api.Errno) {
	return c.each(func(i int, x api.Ins) bool { return i < len(c.code)-1 || insn.Ends(x) }, api.ErrEnd)
}

// each returns the slot of the first instruction for which something does not
// hold, and the error.
func (c *checker) each(holds func(i int, x api.Ins) bool, broken api.Errno) (int, api.Errno) {
	for i, x := range c.code {
		if !holds(i, x) {
			return c.starts[i], broken
		}
	}
	return 0, api.OK
}

// refers reports whether an instruction refers to a map.
func refers(x api.Ins) bool { return ops.Form(x.Op) == api.MapRef }
