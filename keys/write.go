package keys

import "muniment/api"

// What stands in keys beside Kinds, numbers and texts. An end is less than whatever else may stand in its place, so that a beginning goes ahead.
const (
	end     = 0   // of an Array, of an Object, and twice of a text
	more    = 1   // ahead of each member of an Object
	another = 255 // behind a 0 that is a text's own
)

// An Int's N goes from -2^63 on, its bytes from 0 on.
const lowest = 1 << 63

// appendValue leans on v being formed: only so its Kind has a byte, and names stand by their Items.
func appendValue(b []byte, v api.Value) []byte {
	b = append(b, byte(v.Kind+1))
	switch v.Kind {
	case api.Int:
		return appendNumber(b, uint64(v.N)+lowest)
	case api.String:
		return appendText(b, v.Text)
	case api.Array, api.Object:
		return appendMembers(b, v)
	}
	return b
}

func appendNumber(b []byte, n uint64) []byte {
	for shift := 56; shift >= 0; shift -= 8 {
		b = append(b, byte(n>>shift))
	}
	return b
}

func appendText(b []byte, s string) []byte {
	for i := range len(s) {
		b = append(b, s[i])
		if s[i] == end {
			b = append(b, another)
		}
	}
	return append(b, end, end)
}

func appendMembers(b []byte, v api.Value) []byte {
	for i, item := range v.Items {
		if v.Kind == api.Object {
			b = append(b, more)
			b = appendText(b, v.Names[i])
		}
		b = appendValue(b, item)
	}
	return append(b, end)
}
