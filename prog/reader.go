package prog

import (
	"slotcode/api"
	"slotcode/parse"
)

// reader reads the lines of a text one after the other.
type reader struct {
	program   api.Program
	mapLines  []int
	stmtLines []int
	labels    []string // in front of the next instruction
	labelLine int      // of the first of these
	line      int      // number of lines so far
}

// read reads the next line.
func (r *reader) read(s string) api.Errno {
	r.line++
	items, e := parse.Line(s)
	if e != api.OK {
		return e
	}
	for _, item := range items {
		switch x := item.(type) {
		case parse.Label:
			r.addLabel(x.Name)
		case parse.Map:
			if len(r.labels) > 0 || len(r.program.Stmts) > 0 {
				return api.ErrOrder
			}
			r.addMap(x.Def)
		case parse.Code:
			r.addCode(x)
		}
	}
	return api.OK
}

func (r *reader) addLabel(name string) {
	if len(r.labels) == 0 {
		r.labelLine = r.line
	}
	r.labels = append(r.labels, name)
}

func (r *reader) addMap(d api.Def) {
	r.program.Maps = append(r.program.Maps, d)
	r.mapLines = append(r.mapLines, r.line)
}

func (r *reader) addCode(c parse.Code) {
	s := api.Stmt{Labels: r.labels, Ins: c.Ins, Target: c.Target, Map: c.Map}
	r.program.Stmts = append(r.program.Stmts, s)
	r.stmtLines = append(r.stmtLines, r.line)
	r.labels = nil // not emptied, since the statement keeps the slice
}

// lineOf returns the line of what breaks a condition. If that is no map or
// statement, since there are no statements, it is the number of lines.
func (r *reader) lineOf(b breach) int {
	lines := r.stmtLines
	if b.ofMap {
		lines = r.mapLines
	}
	if b.at >= len(lines) {
		return r.line
	}
	return lines[b.at]
}
