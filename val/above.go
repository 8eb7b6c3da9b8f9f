package val

// What a value of a layer above may tell of itself, beside its kind. One that tells nothing counts as true, and is equal to itself alone.

// hollow tells whether there is nothing in it.
type hollow interface{ Empty() bool }

// spoken tells how it is written.
type spoken interface{ Repr() string }

// likened tells whether it is equal to another value.
type likened interface{ Like(v Value) bool }
