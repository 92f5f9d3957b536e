package manifest

import (
	"math"

	"scree/api"
	"scree/codec"
)

// readRecord reads a record; false, if it is none that an edit may have. Every step below hands on what is left behind what it read, or says that nothing is to be read there.
func readRecord(rec []byte) (record, bool) {
	var r record
	var ok bool
	rest := rec[:len(rec):len(rec)]
	if r.last, rest, ok = readLast(rest); !ok {
		goto wrong
	}
	if r.Edit, rest, ok = readRoots(rest); !ok {
		goto wrong
	}
	if r.Out, rest, ok = readList(rest, api.EditTables, readPlace); !ok {
		goto wrong
	}
	if r.In, rest, ok = readList(rest, api.EditTables-len(r.Out), readPlaced); !ok {
		goto wrong
	}
	if r.Pointers, rest, ok = readList(rest, api.MaxLevels, readKey); !ok {
		goto wrong
	}
	if len(rest) > 0 || !r.last && !fullWithoutPointers(r.Edit) {
		goto wrong
	}
	return r, true

wrong:
	return record{}, false
}

// fullWithoutPointers is what all records of an edit but its last one are.
func fullWithoutPointers(e api.Edit) bool {
	return tables(e) == api.EditTables && len(e.Pointers) == 0
}

func readLast(b []byte) (bool, []byte, bool) {
	if len(b) == 0 || b[0] != recordMore && b[0] != recordLast {
		return false, nil, false
	}
	return b[0] == recordLast, b[1:len(b):len(b)], true
}

// readRoots reads the numbers that an edit begins with.
func readRoots(b []byte) (api.Edit, []byte, bool) {
	var l [3]uint64
	var ok bool
	for i := range l {
		if l[i], b, ok = readNumber(b, math.MaxUint64); !ok {
			return api.Edit{}, nil, false
		}
	}
	return api.Edit{Log: l[0], Next: l[1], Seq: l[2]}, b, true
}

// readList reads how many things there are, at most most, and each of them by one.
func readList[T any](b []byte, most int, one func([]byte) (T, []byte, bool)) ([]T, []byte, bool) {
	n, b, ok := readInt(b, most)
	if !ok {
		return nil, nil, false
	}
	l := make([]T, n)
	for i := range l {
		if l[i], b, ok = one(b); !ok {
			return nil, nil, false
		}
	}
	return l, b, true
}

func readPlace(b []byte) (api.Place, []byte, bool) {
	level, b, ok := readInt(b, api.MaxLevels-1)
	if !ok {
		return api.Place{}, nil, false
	}
	number, b, ok := readNumber(b, math.MaxUint64)
	if !ok {
		return api.Place{}, nil, false
	}
	return api.Place{Level: level, Number: number}, b, true
}

// readPlaced reads a table that comes in: it begins as one that goes out does.
func readPlaced(b []byte) (api.Placed, []byte, bool) {
	place, b, ok := readPlace(b)
	if !ok {
		return api.Placed{}, nil, false
	}
	var sizes [3]int
	for i := range sizes {
		if sizes[i], b, ok = readInt(b, math.MaxInt); !ok {
			return api.Placed{}, nil, false
		}
	}
	var hull [2]string
	for i := range hull {
		if hull[i], b, ok = readKey(b); !ok {
			return api.Placed{}, nil, false
		}
	}
	t := api.Table{Number: place.Number, Weight: sizes[0], Bytes: sizes[1], Entries: sizes[2], Least: hull[0], Greatest: hull[1]}
	return api.Placed{Level: place.Level, Table: t}, b, true
}

// readInt reads a number from 0 to most, which isn't below 0.
func readInt(b []byte, most int) (int, []byte, bool) {
	n, rest, ok := readNumber(b, uint64(most))
	return int(n), rest, ok
}

func readNumber(b []byte, most uint64) (uint64, []byte, bool) {
	n, taken, err := codec.Uint(b)
	if err != api.OK || n > most {
		return 0, nil, false
	}
	return n, b[taken:len(b):len(b)], true
}

func readKey(b []byte) (string, []byte, bool) {
	key, taken, err := codec.Text(b, api.MaxKey)
	if err != api.OK {
		return "", nil, false
	}
	return key, b[taken:len(b):len(b)], true
}
