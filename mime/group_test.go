package mime_test

import (
	"strings"
	"testing"

	"ostiary/api"
	"ostiary/mime"
)

// P6.4

func TestGroup(t *testing.T) {
	for s, want := range map[string]int{
		"application/javascript": 1, "application/ecmascript": 1, "application/x-javascript": 1, "application/x-ecmascript": 1,
		"text/javascript": 1, "text/ecmascript": 1, "text/x-javascript": 1, "text/x-ecmascript": 1, "text/jscript": 1,
		"Text/JavaScript;charset=x": 1, "text/javascript;version=1.5": 1,
		"application/jscript": 0, "text/x-jscript": 0, "text/livescript": 0, "text/javascript1.5": 0, "a/javascript": 0, "text/javascripts": 0, "text/xjavascript": 0, "applications/javascript": 0,
		"image/javascript": 4, "audio/jscript": 6, "video/ecmascript": 6,
		"application/json": 2, "text/json": 2, "a/b+json": 2, "a/+json": 2, "image/b+json": 2, "audio/b+json": 2, "text/css+json": 2, "text/javascript+json": 2, "application/ld+json;p=q": 2, "A/B+JSON": 2, "a/b+xml+json": 2,
		"a/json": 0, "application/xjson": 0, "a/b-json": 0, "a/b+jsonx": 0, "a/b+json+c": 0, "text/json5": 0, "image/json": 4, "audio/json": 6,
		"application/xml": 3, "text/xml": 3, "image/svg+xml": 3, "a/b+xml": 3, "a/+xml": 3, "video/b+xml": 3, "text/css+xml": 3, "application/xhtml+xml": 3, "a/b+json+xml": 3,
		"a/xml": 0, "application/xxml": 0, "a/b-xml": 0, "a/b+xmlx": 0, "image/xml": 4, "video/xml": 6,
		"image/png": 4, "image/*": 4, "IMAGE/PNG": 4, "image/css": 4, "images/png": 0, "imag/png": 0, "x/image": 0,
		"text/css": 5, "Text/CSS;charset=x": 5, "application/css": 0, "text/csss": 0, "text/x-css": 0, "a/b+css": 0, "texts/css": 0,
		"audio/a": 6, "video/a": 6, "audio/css": 6, "Video/*;p=q": 6, "audi/a": 0, "videos/a": 0, "a/video": 0,
		"text/html": 0, "text/plain": 0, "application/octet-stream": 0, "*/*": 0, "font/woff": 0, "multipart/form-data": 0,
	} {
		x, ok := mime.Parse(s)
		if g := mime.Group(x); !ok || g != want {
			t.Errorf("Group(%s): %d, not %d", s, g, want)
		}
	}
	for _, x := range []mime.Type{{}, kind("", "json"), kind("application", ""), kind("text", ""), kind("", "css"), kind("text", "CSS"), kind("Text", "css"), kind("\xff", "\x00")} {
		if g := mime.Group(x); g != 0 {
			t.Errorf("Group(%q): %d", x, g)
		}
	}
}

// TestGroupAgain: all pairs of some words, held against a list of the essences.
func TestGroupAgain(t *testing.T) {
	scripts := " application/javascript application/ecmascript application/x-javascript application/x-ecmascript text/javascript text/ecmascript text/x-javascript text/x-ecmascript text/jscript "
	for _, major := range strings.Fields("application text image audio video font a x-text") {
		for _, minor := range strings.Fields("javascript ecmascript x-javascript x-ecmascript jscript x-jscript json xml css html a+json a+xml +json +xml a+css png plain json+xml xml+json") {
			essence := major + "/" + minor
			want := 0
			switch {
			case strings.Contains(scripts, " "+essence+" "):
				want = 1
			case essence == "application/json" || essence == "text/json" || strings.HasSuffix(essence, "+json"):
				want = 2
			case essence == "application/xml" || essence == "text/xml" || strings.HasSuffix(essence, "+xml"):
				want = 3
			case strings.HasPrefix(essence, "image/"):
				want = 4
			case essence == "text/css":
				want = 5
			case strings.HasPrefix(essence, "audio/") || strings.HasPrefix(essence, "video/"):
				want = 6
			}
			for _, x := range []mime.Type{kind(major, minor), kind(major, minor, "charset", "x", "p", "text/css")} {
				if g := mime.Group(x); g != want {
					t.Errorf("Group(%s): %d, not %d", essence, g, want)
				}
			}
		}
	}
}

// P6.5

func TestBlocked(t *testing.T) {
	const option, content = "x-content-type-options", "content-type"
	for _, c := range []struct {
		l             []api.Header
		script, style bool
	}{
		{nil, false, false},
		{list(content, "text/html"), false, false}, // without the header
		{list(option, "nosniff"), true, true},      // no kind at all
		{list(option, "nosniff", content, "text/html"), true, true},
		{list(option, "nosniff", content, "text/javascript"), false, true},
		{list(option, "nosniff", content, "application/x-ecmascript;p=q"), false, true},
		{list(option, "nosniff", content, "Text/JScript"), false, true},
		{list(option, "nosniff", content, "text/css"), true, false},
		{list(option, "nosniff", content, "TEXT/CSS;charset=x"), true, false},
		{list(option, "nosniff", content, "application/json"), true, true},
		{list(option, "nosniff", content, "a/b+xml"), true, true},
		{list(option, "nosniff", content, "image/png"), true, true},
		{list(option, "nosniff", content, "audio/a"), true, true},
		{list(option, "nosniff", content, "bad"), true, true},
		{list(option, "nosniff", content, "*/*"), true, true},
		{list(option, "nosniff", content, ""), true, true},
		{list(option, "nosniff", content, "text/css, text/javascript"), false, true}, // what Extract answers
		{list(option, "nosniff", content, "text/javascript", content, "text/css"), true, false},
		{list(option, "nosniff", content, "text/javascript", content, "bad"), false, true},
		{list("X-Content-Type-Options", "NoSniff", "Content-Type", "text/html"), true, true},
		{list(option, "NOSNIFF"), true, true},
		{list(option, " \tnosniff\t "), true, true},
		{list(option, "nosniff, x"), true, true},
		{list(option, "nosniff,"), true, true},
		{list(option, "nosniff", option, "x"), true, true},
		{list(option, "x", option, "nosniff"), false, false}, // the first piece alone
		{list(option, "x, nosniff"), false, false},
		{list(option, ",nosniff"), false, false},
		{list(option, "", option, "nosniff"), false, false},
		{list(option, ""), false, false},
		{list(option, "nosniff;x"), false, false},
		{list(option, "nosniffs"), false, false},
		{list(option, "nosnif"), false, false},
		{list(option, "no sniff"), false, false},
		{list(option, "\"nosniff\""), false, false},
		{list(option, "nosniff\n"), false, false},
		{list(option, "no\u017fniff"), false, false}, // a letter that is not ASCII
		{list("x-content-type-option", "nosniff"), false, false},
		{list("content-type-options", "nosniff"), false, false},
	} {
		for dest, want := range map[int]bool{api.Script: c.script, api.Style: c.style, api.Plain: false, api.Image: false, api.Font: false, api.Frame: false, 0: false, -1: false, 7: false} {
			if got := mime.Blocked(c.l, dest); got != want {
				t.Errorf("Blocked(%q, %d): %v", c.l, dest, got)
			}
		}
	}
}
