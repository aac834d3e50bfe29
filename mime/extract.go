package mime

import (
	"ostiary/api"
	"ostiary/headers"
)

// Extract tells the kind that a reply's headers name: the last one, since a server that adds one corrects what stands ahead of it.
func Extract(l []api.Header) (Type, bool) {
	var last Type
	found := false
	pieces, _ := headers.Split(l, "content-type")
	for _, piece := range pieces {
		t, ok := Parse(piece)
		if ok && Essence(t) != "*/*" {
			last, found = withCharset(t, last), true
		}
	}
	return last, found
}

// withCharset tells t with the charset of the kind ahead of it, if t is the same kind told again without one.
func withCharset(t, ahead Type) Type {
	if _, own := charset(t); own || Essence(t) != Essence(ahead) {
		return t
	}
	if p, ok := charset(ahead); ok {
		t.Params = append(t.Params, p)
	}
	return t
}

func charset(t Type) (Param, bool) {
	for _, p := range t.Params {
		if p.Name == "charset" {
			return p, true
		}
	}
	return Param{}, false
}
