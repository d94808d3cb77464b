package scribe

import "hostelry/api"

// Sealed lets the tests write lines of anything.
func Sealed(text string) string { return sealed(text) }

// Written lets the tests write what is not a deed.
func Written(d api.Deed) string { return written(d) }
