package source_test

import (
	"strings"
	"testing"

	"ostiary/api"
	"ostiary/integrity"
	"ostiary/source"
)

// mustAny: Any of a list none of whose sources means u, for what beside an address is asked.
func mustAny(t *testing.T, list, nonce, metadata string, want bool) {
	t.Helper()
	l := strings.Fields(list)
	u, page := at(t, "http://h/x"), at(t, "http://p/")
	for _, hops := range []int{0, 1} {
		if source.Any(l, u, page, hops, nonce, metadata) != want {
			t.Errorf("Any(%q, nonce %q, metadata %q): %v", l, nonce, metadata, !want)
		}
	}
	if want && !source.Any(append(l, "'none'", "g"), at(t, "data:x"), at(t, "a:"), 0, nonce, metadata) {
		t.Errorf("Any(%q, nonce %q, metadata %q): it hangs on the address", l, nonce, metadata)
	}
	for _, s := range l {
		if source.One(s, u, page, 0) {
			t.Errorf("One(%q)", s)
		}
	}
}

// P11.3

func TestAnyOfOne(t *testing.T) {
	u, page := at(t, "https://h/x"), at(t, "http://p/")
	for _, c := range []struct {
		list string
		want bool
	}{
		{"", false},
		{"'none'", false},
		{"g", false},
		{"h", true},
		{"g h", true},
		{"h g", true},
		{"g f e d", false},
		{"'none' g h", true}, // 'none' beside others says nothing
		{"g 'self'", false},
		{"g *", true},
		{"g https:", true},
		{"h:81 h/y *.h", false},
		{"h:81 h/x *.h", true},
		{"h h h", true},
	} {
		for _, nonce := range []string{"", "n"} {
			for _, metadata := range []string{"", "sha256-x", "md5-x"} {
				if source.Any(strings.Fields(c.list), u, page, 0, nonce, metadata) != c.want {
					t.Errorf("Any(%q, nonce %q, metadata %q): %v", c.list, nonce, metadata, !c.want)
				}
			}
		}
	}
	if source.Any([]string{"h/y"}, u, page, 0, "", "") || !source.Any([]string{"h/y"}, u, page, 1, "", "") {
		t.Error("hops do not come to One")
	}
	if source.Any([]string{"'self'"}, u, page, 0, "", "") || !source.Any([]string{"'self'"}, u, u, 0, "", "") {
		t.Error("the page does not come to One")
	}
}

func TestNonce(t *testing.T) {
	for _, s := range []string{"'nonce-aB'", "'NONCE-aB'", "'Nonce-aB'", "'nOnCe-aB'"} {
		mustAny(t, s, "aB", "", true)
		mustAny(t, "g "+s+" 'none'", "aB", "", true)
		mustAny(t, s, "aB", "sha256-x", true)
		mustAny(t, s, "aB", "md5-x", true)
		for _, nonce := range []string{"", "a", "B", "ab", "AB", "Ab", "aBa", "aB'", "'aB", "-aB", "aB ", " aB", "nonce-aB", "'nonce-aB'", "aB\x00"} {
			mustAny(t, s, nonce, "", false)
		}
	}
	for _, s := range []string{"nonce-a", "'nonce-a", "nonce-a'", "'nonce-a''", "''nonce-a'", "'nonce-'a'", "'noncea'", "'nonce_a'", "'nonce--a'", "'nonce-'", "'nonce'", "'nonces-a'", "'once-a'", "\"nonce-a\"", "'nonce-a'x", "x'nonce-a'", "'no\u017fce-a'", "'nonce-A'", "a", "'a'", "'sha256-a'"} {
		mustAny(t, s, "a", "", false)
	}
	mustAny(t, "'nonce-a' 'nonce-b'", "b", "", true)
	mustAny(t, "'nonce-a' 'nonce-b'", "c", "", false)
	mustAny(t, "'nonce-a-b'", "a-b", "", true)
	mustAny(t, "'nonce-a-B-'", "a-B-", "", true)
	mustAny(t, "'NONCE--'", "-", "", true)
	mustAny(t, "'nonce-A-b'", "a-b", "", false) // behind the first `-` sizes count
	mustAny(t, "'nonce-''", "'", "", true)
	mustAny(t, "'nonce-\xff'", "\xff", "", true)
	mustAny(t, "'nonce-\xff'", "\xfe", "", false)
	mustAny(t, "'nonce-YQ=='", "YQ==", "", true)
	mustAny(t, "'nonce-YQ=='", "YQ", "", false) // it is a text, and no bytes
}

// TestEmptyNonce: it is none, whatever the list says.
func TestEmptyNonce(t *testing.T) {
	for _, s := range []string{"'nonce-'", "'NONCE-'", "'nonce'", "'nonce-", "nonce-", "''", "'", "'-'", "'nonce-''"} {
		mustAny(t, s, "", "", false)
		mustAny(t, s, "", "sha256-", false)
	}
}

func TestMetadata(t *testing.T) {
	for _, c := range []struct {
		list, metadata string
		want           bool
	}{
		{"'sha256-x'", "sha256-x", true},
		{"'sha384-x'", "sha384-x", true},
		{"'sha512-x'", "sha512-x", true},
		{"'SHA256-x'", "sha256-x", true}, // either size ahead of the `-`
		{"'Sha384-x'", "SHA384-x", true},
		{"'sha512-x'", "sHa512-x", true},
		{"'sha256-X'", "sha256-x", false}, // but not behind it
		{"'sha256-x'", "sha256-X", false},
		{"'sha256-x'", "sha384-x", false},
		{"'sha384-x'", "sha512-x", false},
		{"'sha512-x'", "sha256-x", false},
		{"'sha256-x'", "sha256-y", false},
		{"'sha256-x'", "sha256-xy", false},
		{"'sha256-xy'", "sha256-x", false},
		{"g 'none' 'sha256-x'", "sha256-x", true},

		{"'sha256-x'", "", false}, // no items: nothing is named
		{"'sha256-x'", " ", false},
		{"'sha256-x'", "md5-x", false},
		{"'sha256-x'", "sha256", false},
		{"'md5-x'", "md5-x", false},
		{"'sha1-x'", "sha1-x", false},
		{"'sha0-'", "", false},
		{"'sha-x'", "sha-x", false},
		{"", "sha256-x", false},

		{"'sha256-x'", "sha256-x sha256-x", true}, // each of them
		{"'sha256-x'", "sha256-x sha256-y", false},
		{"'sha256-x'", "sha256-y sha256-x", false},
		{"'sha256-x' 'sha256-y'", "sha256-y sha256-x", true},
		{"'sha256-x'", "sha256-x sha512-y", false},
		{"'sha512-y'", "sha256-x sha512-y", false}, // the weaker ones too
		{"'sha256-x' 'sha512-y'", "sha256-x sha512-y", true},
		{"'sha512-y' 'sha256-x'", "sha256-x sha512-y", true},
		{"'sha512-x' 'sha256-y'", "sha256-x sha512-y", false},
		{"'sha256-x' 'sha384-y' 'sha512-z'", "sha512-z\tsha384-y\nsha256-x", true},
		{"'sha256-x' 'sha384-y'", "sha512-z\tsha384-y\nsha256-x", false},
		{"'sha256-x' 'sha512-z'", "sha512-z\tsha384-y\nsha256-x", false},
		{"'sha384-y' 'sha512-z'", "sha512-z\tsha384-y\nsha256-x", false},
		{"'sha256-x' 'sha256-y' 'sha256-z'", "sha256-y", true},

		{"'sha256-x'", "md5-y sha256-x", true}, // what integrity leaves out does not count
		{"'sha256-x'", "sha256-x sha1-z sha512", true},
		{"'sha256-x'", "sha256-x?o", true}, // an option does not count
		{"'sha256-x' 'sha512-y'", "sha256-x?o sha512-y", true},
		{"'sha256-x?o'", "sha256-x?o", false},
		{"'sha256-x?o'", "sha256-x", false},

		{"sha256-x", "sha256-x", false}, // other forms
		{"'sha256-x", "sha256-x", false},
		{"sha256-x'", "sha256-x", false},
		{"''sha256-x'", "sha256-x", false},
		{"'sha256-x''", "sha256-x", false},
		{"\"sha256-x\"", "sha256-x", false},
		{"'sha256x'", "sha256-x", false},
		{"'sha256_x'", "sha256-x", false},
		{"'sha256--x'", "sha256-x", false},
		{"'sha-256-x'", "sha256-x", false},
		{"'sha0256-x'", "sha256-x", false},
		{"'sha2560-x'", "sha256-x", false},
		{"'nonce-x'", "sha256-x", false},
		{"x", "sha256-x", false},

		{"'sha256-x-y'", "sha256-x-y", true}, // the first `-` is the one
		{"'SHA256-X-y'", "sha256-x-y", false},
		{"'sha256-'", "sha256-", true}, // an empty Want is one
		{"'sha256'", "sha256-", false},
		{"'sha256-''", "sha256-'", true},
		{"'sha256-\xff'", "sha256-\xff", true},
		{"'sha256-\xff'", "sha256-\xfe", false},
		{"'sha256-YQ=='", "sha256-YQ==", true},
		{"'sha256-YQ'", "sha256-YQ==", false}, // it is a text, and no bytes
		{"'sha256-YR=='", "sha256-YQ==", false},
	} {
		mustAny(t, c.list, "", c.metadata, c.want)
		mustAny(t, c.list, "other", c.metadata, c.want)
	}
}

// TestMadeMetadata: what integrity makes of a body is named by itself in quotes.
func TestMadeMetadata(t *testing.T) {
	var all, quoted []string
	for _, bits := range []int{256, 384, 512} {
		for _, body := range []string{"", "a", "b"} {
			s, _ := integrity.Make(bits, []byte(body))
			mustAny(t, "'"+s+"'", "", s, true)
			mustAny(t, strings.Join(quoted, " "), "", s, false)
			all, quoted = append(all, s), append(quoted, "'"+s+"'")
			mustAny(t, strings.Join(quoted, " "), "", strings.Join(all, " "), true)
		}
	}
	for i := range quoted {
		fewer := append(append([]string{}, quoted[:i]...), quoted[i+1:]...)
		mustAny(t, strings.Join(fewer, " "), "", strings.Join(all, " "), false)
	}
}

// P11.4

// TestNothing: the empty list means nothing, 'none' neither.
func TestNothing(t *testing.T) {
	addresses := []string{"http://h/", "https://h:9/x", "ws://h/", "data:x", "about:blank", "a:", "a://h", "blob:http://h/", "http://none/"}
	for _, l := range [][]string{nil, {}, {"'none'"}, {"'NONE'"}, {"'None'", "'none'"}} {
		for _, u := range addresses {
			for _, page := range addresses {
				for _, nonce := range []string{"", "none", "none'", "'none'", "a"} {
					for _, metadata := range []string{"", "none", "'none'", "sha256-none", "sha256-"} {
						for _, hops := range []int{0, 1} {
							if source.Any(l, at(t, u), at(t, page), hops, nonce, metadata) {
								t.Errorf("Any(%q, %s, %s, %d, %q, %q)", l, u, page, hops, nonce, metadata)
							}
						}
					}
				}
			}
		}
	}
}

// TestWithoutPath: what a source with a path means, it means without it.
func TestWithoutPath(t *testing.T) {
	pages := []string{"http://h/", "https://p:9/", "ftp://p/", "data:x", "a://p"}
	var addresses []api.URL
	for _, scheme := range []string{"http", "https", "ws", "wss", "ftp", "a"} {
		for _, host := range []string{"h", "a.h", "h:81", "h:443", "*", "*."} {
			for _, path := range []string{"", "/", "/x", "/x/", "/x/y", "//"} {
				addresses = append(addresses, at(t, scheme+"://"+host+path))
			}
		}
	}
	addresses = append(addresses, at(t, "data:x"), at(t, "a:/x"), at(t, "blob:http://h/x"))
	meant := 0
	for _, ahead := range []string{"", "*", "h", "*.h", "*.", "'self'", "'none'", "http:", "a:", "http://", "http://h", "https://*", "a://h", "h:*", "*:*", "h:80", "h:443", "h:81", "h:", "http://*:*", "ws://*.h:80", "'x"} {
		for _, path := range []string{"/", "/x", "/x/", "/x/y", "//", "/%78"} {
			for _, u := range addresses {
				for _, p := range pages {
					for _, hops := range []int{0, 1} {
						page := at(t, p)
						if !source.One(ahead+path, u, page, hops) {
							continue
						}
						meant++
						if !source.One(ahead, u, page, hops) {
							t.Errorf("%q means %+v on %s, %q does not", ahead+path, u, p, ahead)
						}
					}
				}
			}
		}
	}
	if meant < 1000 {
		t.Errorf("too few: %d", meant)
	}
}
