package rows

import (
	"lintel/api"
	"lintel/keys"
)

// Put answers a row's bytes: cell by cell how many bytes follow, and the key of the cell's id and value. ErrForm, if the ids don't rise from 1 on, or a value may not be.
func Put(cells []api.Cell) (string, api.Errno) {
	var out []byte
	last := 0
	for _, c := range cells {
		k := key(number(c.Id), c.Value)
		if c.Id <= last || k == "" {
			return "", api.ErrForm
		}
		// One byte tells the length of any: a text of 64 bytes 0 has the longest key, of 140 bytes with the id's.
		out = append(out, byte(len(k)))
		out = append(out, k...)
		last = c.Id
	}
	return string(out), api.OK
}

// Get answers the cells whose bytes s is. ErrForm, if no cells have these.
func Get(s string) ([]api.Cell, api.Errno) {
	var cells []api.Cell
	last := 0
	for s != "" {
		n := int(s[0])
		s = s[1:]
		if n > len(s) {
			return nil, api.ErrForm
		}
		c, ok := cell(s[:n])
		if !ok || c.Id <= last {
			return nil, api.ErrForm
		}
		cells = append(cells, c)
		last = c.Id
		s = s[n:]
	}
	return cells, api.OK
}

// cell answers the cell whose id and value have the key s, and whether there is one.
func cell(s string) (api.Cell, bool) {
	list, err := keys.Decode(s)
	if err != api.OK || len(list) != 2 || list[0].Kind != api.Int {
		return api.Cell{}, false
	}
	id := int(list[0].N)
	// An int may be shorter than a key's number.
	return api.Cell{Id: id, Value: list[1]}, int64(id) == list[0].N
}

// Of answers the value of the cell with that id: null, if there is none.
func Of(cells []api.Cell, id int) api.Value {
	for _, c := range cells {
		if c.Id == id {
			return c.Value
		}
	}
	return api.Value{}
}
