package data

import (
	"strings"

	"ostiary/api"
	"ostiary/infra"
	"ostiary/url"
)

// parts is what has been read so far. Till the text is cut, all of it is body.
type parts struct{ kind, body string }

// step goes on from what has been read; false refuses it.
type step func(p parts) (parts, bool)

// then chains two steps to one. What the first one refuses does not come to the next.
func then(first, next step) step {
	return func(p parts) (parts, bool) {
		p, ok := first(p)
		if !ok {
			return parts{}, false
		}
		return next(p)
	}
}

// textOf begins a chain with the text of u; it refuses an address that is not its content.
func textOf(u api.URL) step {
	return func(p parts) (parts, bool) {
		if u.Scheme != scheme || !u.Opaque {
			return parts{}, false
		}
		p.body = strings.TrimPrefix(url.Bare(u), scheme+":")
		return p, true
	}
}

// cut parts the kind from the body. The kind is not Unpercented: mime reads it as it stands.
func cut(p parts) (parts, bool) {
	kind, body, ok := strings.Cut(p.body, ",")
	return parts{kind: infra.Strip(kind), body: infra.Unpercent(body)}, ok
}

// unwrapped takes the mark of base64 off the kind, and the base64 itself off the body.
func unwrapped(p parts) (parts, bool) {
	kind, ok := withoutMark(p.kind)
	if !ok {
		return p, true
	}
	b, ok := infra.Base64(p.body)
	return parts{kind: kind, body: string(b)}, ok
}

// withoutMark tells what stands ahead of the mark and its `;`; false, if there is none.
func withoutMark(kind string) (string, bool) {
	end := len(kind) - len(mark)
	if end < 0 || infra.Lower(kind[end:]) != mark {
		return "", false
	}
	return strings.CutSuffix(strings.TrimRight(kind[:end], " "), ";")
}

// completed puts the usual kind ahead of parameters that stand alone.
func completed(p parts) (parts, bool) {
	if strings.HasPrefix(p.kind, ";") {
		p.kind = "text/plain" + p.kind
	}
	return p, true
}
