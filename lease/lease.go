// Package lease: where each pair of a small program lives, and how long: see DOC.md.
package lease

import (
	"lease/api"
	"lease/check"
	"lease/machine"
	"lease/place"
	"lease/tree"
	"lease/vet"
	"lease/write"
)

// Check tells whether a text is a plain program, and if not, where (P3).
func Check(src string) (api.Errno, int) {
	_, e, at := readPlain(src)
	return e, at
}

// Eval runs a plain program (P4).
func Eval(src string, fuel int) (api.Result, api.Errno) {
	program, e, _ := readPlain(src)
	if e != api.OK {
		return api.Result{}, e
	}
	return run(program, fuel)
}

// Place gives every pair a region, and every region its place (P5).
func Place(src string) (string, api.Errno) {
	program, e, _ := readPlain(src)
	if e != api.OK {
		return "", e
	}
	layout := place.Program(program)
	return write.Placed(program, layout), api.OK
}

// Erase takes the regions away (P6).
func Erase(placed string) (string, api.Errno) {
	program, e, _ := parsePlaced(placed)
	if e != api.OK {
		return "", e
	}
	return write.Plain(program), api.OK
}

// Vet tells whether a placed program can use a dead cell, and where (P7).
func Vet(placed string) (api.Errno, int) {
	program, e, at := readPlaced(placed)
	if e != api.OK {
		return e, at
	}
	return vet.Program(program)
}

// Run runs a placed program (P8).
func Run(placed string, fuel int) (api.Result, api.Errno) {
	program, e, _ := readPlaced(placed)
	if e != api.OK {
		return api.Result{}, e
	}
	return run(program, fuel)
}

func run(program tree.Tree, fuel int) (api.Result, api.Errno) {
	if fuel < 0 || fuel > api.MaxFuel {
		return api.Result{}, api.ErrArg
	}
	return machine.Run(program, fuel)
}

// readPlain gives the program, and the first fault of the text and its place; with a fault the program is not to be used.
func readPlain(src string) (tree.Tree, api.Errno, int) {
	if len(src) > api.MaxText {
		return tree.Tree{}, api.ErrLong, 0
	}
	program, at, ok := tree.ParsePlain(src)
	if !ok {
		return tree.Tree{}, api.ErrForm, at
	}
	e, where := check.Program(program)
	return program, e, where
}

// readPlaced does the same for a placed program; faults of its regions are not looked for.
func readPlaced(placed string) (tree.Tree, api.Errno, int) {
	program, e, at := parsePlaced(placed)
	if e != api.OK {
		return program, e, at
	}
	e, at = check.Program(program)
	return program, e, at
}

// parsePlaced stands alone because Erase asks for the form, not for names and types.
func parsePlaced(placed string) (tree.Tree, api.Errno, int) {
	if len(placed) > api.MaxPlaced {
		return tree.Tree{}, api.ErrLong, 0
	}
	program, at, ok := tree.ParsePlaced(placed)
	if !ok {
		return tree.Tree{}, api.ErrForm, at
	}
	return program, api.OK, 0
}
