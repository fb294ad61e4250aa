package name_test

import (
	"math/rand"
	"testing"

	"inquest/api"
	"inquest/name"
)

// written is a way to write symbols, with plain readings of the chapter.
type written struct {
	write     func(name.Symbol) (string, api.Errno)
	read      func(string) (name.Symbol, int, api.Errno)
	plain     func(name.Symbol) string
	plainRead func(string) int // the offset of the error; -1, if there is none but Check's
}

func mangledForm() written {
	return written{name.Mangle, name.Demangle, plainMangle, plainDemangle}
}

func printedForm() written { return written{name.Print, name.Parse, plainPrint, plainParse} }

// compares holds a reader against the plain reading, and tells whether the string has no error but Check's.
func (w written) compares(t *testing.T, text string) bool {
	t.Helper()
	s, n, e := w.read(text)
	want := w.plainRead(text)
	if e == api.ErrSyntax && n == want && zero(s) {
		return false
	}
	if e == api.ErrSyntax || want != -1 || n != 0 || e != api.OK && !zero(s) {
		t.Fatalf("%q: %v %d %v, not %d", text, s, n, e, want)
	}
	if e == api.OK {
		if again, e := w.write(s); again != text || e != api.OK {
			t.Fatalf("%q is read, but %q is written: %v", text, again, e)
		}
	}
	return true
}

// change puts a part of a list in, or in the place of a byte, or takes a byte out.
func change(r *rand.Rand, s string, l []string) string {
	at := r.Intn(len(s))
	switch r.Intn(3) {
	case 0:
		return s[:at] + s[at+1:]
	case 1:
		return s[:at] + l[r.Intn(len(l))] + s[at+1:]
	}
	return s[:at] + l[r.Intn(len(l))] + s[at:]
}

// changes compares what is read of strings that are near to those of symbols.
func changes(t *testing.T, seed int64, w written, marks []string) {
	t.Helper()
	taken, refused := 0, 0
	randomSymbols(t, seed, func(r *rand.Rand, x name.Symbol) {
		text := w.plain(x)
		for range 10 {
			next := change(r, text, marks)
			if w.compares(t, next) {
				taken++
				text = next
			} else {
				refused++
			}
		}
	})
	if taken < 1000 || refused < 1000 {
		t.Error(taken, refused)
	}
}
