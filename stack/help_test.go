package stack_test

import (
	"slices"
	"strings"

	"inquest/api"
)

// fn is a frame of which only the function is known.
func fn(name string) api.Frame { return api.Frame{Func: name, Addr: -1} }

// row is a frame for each word.
func row(words string) []api.Frame {
	var l []api.Frame
	for _, word := range strings.Fields(words) {
		l = append(l, fn(word))
	}
	return l
}

// many is a list of equal frames.
func many(n int) []api.Frame { return slices.Repeat(row("f"), n) }

// fault is a fault of a kind with a frame for each word.
func fault(kind, words string) api.Fault { return api.Fault{Kind: kind, Frames: row(words)} }

// lines puts a line feed behind each line.
func lines(l ...string) string {
	if len(l) == 0 {
		return ""
	}
	return strings.Join(l, "\n") + "\n"
}

// word is a string of so many bytes.
func word(n int) string { return strings.Repeat("w", n) }

// badFrames has a frame for each error of CheckFrame.
func badFrames() map[string]struct {
	frame api.Frame
	want  api.Errno
} {
	return map[string]struct {
		frame api.Frame
		want  api.Errno
	}{
		"large module": {api.Frame{Module: word(201), Func: "f", Addr: -1}, api.ErrLarge},
		"byte":         {api.Frame{Func: "a b", Addr: -1}, api.ErrByte},
		"no function":  {api.Frame{Addr: -1}, api.ErrForm},
		"line":         {api.Frame{Func: "f", File: "x", Line: -1, Addr: -1}, api.ErrRange},
		"no file":      {api.Frame{Func: "f", Line: 1, Addr: -1}, api.ErrForm},
	}
}

// sample is three faults in which all parts of a line are there and missing, and frames are shared.
func sample() []api.Fault {
	start := api.Frame{Module: "rt", Func: "start", Addr: 0}
	main := api.Frame{Module: "app", Func: "main", File: "main.go", Line: 3, Addr: -1, Own: true}
	call := api.Frame{Func: "call", File: "c", Line: 9_999_999, Addr: api.MaxAddr, Own: true}
	open := api.Frame{Module: "lib", Func: "open", File: "open.go", Addr: 31}
	return []api.Fault{
		{Kind: "Oops", Text: "it broke: \xc3\xa9", Frames: []api.Frame{call, fn("f"), main, start}},
		{Kind: "Low", Frames: []api.Frame{open, call, main, start}},
		{Kind: "None"},
	}
}
