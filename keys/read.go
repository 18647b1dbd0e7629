package keys

import (
	"muniment/api"
	"muniment/json"
)

// readFormed refuses what reads well, but is no formed value's key: names that don't rise, bytes that are no UTF-8.
func readFormed(b []byte, at *int) (api.Value, bool) {
	v, ok := readValue(b, at, api.MaxDepth)
	return v, ok && json.Formed(v)
}

// readValue counts the levels down, so that it goes no deeper than a formed value, however long b is.
func readValue(b []byte, at *int, levels int) (api.Value, bool) {
	first, ok := next(b, at)
	if !ok || levels == 0 {
		return api.Value{}, false
	}
	v := api.Value{Kind: int(first) - 1}
	switch v.Kind {
	case api.Null, api.False, api.True:
		return v, true
	case api.Int:
		n, ok := readNumber(b, at)
		v.N = int64(n - lowest)
		return v, ok
	case api.String:
		v.Text, ok = readText(b, at)
		return v, ok
	case api.Array:
		v.Items, ok = readItems(b, at, levels-1)
		return v, ok
	case api.Object:
		v.Names, v.Items, ok = readMembers(b, at, levels-1)
		return v, ok
	}
	return api.Value{}, false
}

func next(b []byte, at *int) (byte, bool) {
	if *at == len(b) {
		return 0, false
	}
	*at++
	return b[*at-1], true
}

func readNumber(b []byte, at *int) (uint64, bool) {
	var n uint64
	for range 8 {
		c, ok := next(b, at)
		if !ok {
			return 0, false
		}
		n = n<<8 + uint64(c)
	}
	return n, true
}

// readText reads no more than a formed text has, as b may be far longer.
func readText(b []byte, at *int) (string, bool) {
	var text []byte
	for len(text) <= api.MaxString {
		c, ok := next(b, at)
		if !ok {
			return "", false
		}
		if c == end {
			mark, ok := next(b, at)
			if !ok || mark != end && mark != another {
				return "", false
			}
			if mark == end {
				return string(text), true
			}
		}
		text = append(text, c)
	}
	return "", false
}

// ends tells whether a list of n members ends at the place, and goes behind its end; one of MaxMembers has to.
func ends(b []byte, at *int, n int) (over, ok bool) {
	if *at == len(b) {
		return false, false
	}
	if b[*at] == end {
		*at++
		return true, true
	}
	return false, n < api.MaxMembers
}

func readItems(b []byte, at *int, levels int) ([]api.Value, bool) {
	var items []api.Value
	for {
		over, ok := ends(b, at, len(items))
		if over || !ok {
			return items, ok
		}
		item, ok := readValue(b, at, levels)
		if !ok {
			return nil, false
		}
		items = append(items, item)
	}
}

func readMembers(b []byte, at *int, levels int) ([]string, []api.Value, bool) {
	var names []string
	var items []api.Value
	for {
		over, ok := ends(b, at, len(items))
		if over || !ok {
			return names, items, ok
		}
		name, item, ok := readMember(b, at, levels)
		if !ok {
			return nil, nil, false
		}
		names = append(names, name)
		items = append(items, item)
	}
}

func readMember(b []byte, at *int, levels int) (string, api.Value, bool) {
	mark, ok := next(b, at)
	if !ok || mark != more {
		return "", api.Value{}, false
	}
	name, ok := readText(b, at)
	if !ok {
		return "", api.Value{}, false
	}
	item, ok := readValue(b, at, levels)
	return name, item, ok
}
