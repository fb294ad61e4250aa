package group_test

import (
	"hash/fnv"
	"math/rand"
	"regexp"
	"slices"
	"strconv"
	"strings"
	"testing"

	"inquest/api"
	"inquest/group"
)

// P5.5
func TestPlain(t *testing.T) {
	for s, want := range map[string]string{
		"": "", "a": "a", "no 'x' at 0x1F, 12 of \"a b\"": "no 'x' at <a>, <n> of <s>", "\xff\x00\n": "\xff\x00\n", "<n>": "<n>",
		"0": "<n>", "7": "<n>", "0123456789": "<n>", "1.5": "<n>.<n>", "-1": "-<n>", "a1b22c": "a<n>b<n>c", "1,000": "<n>,<n>", "\xd9\xa1": "\xd9\xa1", "/:": "/:",
		"0x": "<n>x", "0x0": "<a>", "0X1": "<n>X<n>", "0xg": "<n>xg", "0xg1": "<n>xg<n>", "0x0X1": "<a>X<n>", "0x0x1": "<a>x<n>", "00x1": "<n>x<n>", "10x1": "<n>x<n>", "x1": "x<n>", "0x1g": "<a>g", "0xabcdefABCDEF0123456789": "<a>", "0x1/0x2:0x3@0x4G0x5`0x6": "<a>/<a>:<a>@<a>G<a>`<a>", "a0x1": "a<a>", "ff": "ff", "0 x1": "<n> x<n>",
		"\"": "\"", "\"\"": "<s>", "\"a": "\"a", "\"1": "\"<n>", "\"1\"": "<s>", "\"1\" 2\"": "<s> <n>\"", "\"a\"b\"c\"": "<s>b<s>", "\"\"\"": "<s>\"", "\"\"\"\"": "<s><s>", "\"\\\"1\"": "<s><n>\"", "\"\n0x1\xff\"": "<s>", "1\"2\"3": "<n><s><n>", "0x\"1\"": "<n>x<s>", "''": "''", "'1'": "'<n>'", "0x1\"": "<a>\"", "\"0x1": "\"<a>",
	} {
		if got := group.Plain(s); got != want {
			t.Errorf("%q: %q, not %q", s, got, want)
		}
	}
}

// P5.5: all that is plain, plainly read.
func TestPlainPlainly(t *testing.T) {
	r := rand.New(rand.NewSource(2))
	pattern := regexp.MustCompile(`0x[0-9a-fA-F]+|[0-9]+|"[^"]*"`)
	for range 100_000 {
		s := randomFrom(r, "00x1fFgX\"\" \xff\n", 12)
		want := pattern.ReplaceAllStringFunc(s, func(part string) string {
			switch {
			case part[0] == '"':
				return "<s>"
			case strings.HasPrefix(part, "0x"):
				return "<a>"
			}
			return "<n>"
		})
		if got := group.Plain(s); got != want {
			t.Fatalf("%q: %q, not %q", s, got, want)
		}
	}
}

// P5.5: long strings are no reason to wait.
func TestPlainLong(t *testing.T) {
	for s, want := range map[string]string{"0x ": "<n>x ", "0x1 ": "<a> ", "1 ": "<n> ", "\"a\"": "<s>", "a": "a", "\xff": "\xff"} {
		if got := group.Plain(strings.Repeat(s, 1_000_000)); got != strings.Repeat(want, 1_000_000) {
			t.Errorf("%q: %.20q", s, got)
		}
	}
	if got := group.Plain(strings.Repeat("0", 1_000_000)); got != "<n>" {
		t.Errorf("%.20q", got)
	}
}

// P5.5
func TestParts(t *testing.T) {
	for _, c := range []struct {
		rules  string
		faults []api.Fault
		want   []string
	}{
		{"module:\"rt\" -> hide\nkind:\"Timeout*\" -> key=\"slow\"\n", []api.Fault{{Kind: "TimeoutRead"}}, []string{"key", "slow"}},
		{"module:\"rt\" -> hide\nkind:\"Timeout*\" -> key=\"slow\"\n", []api.Fault{{Kind: "Oops", Frames: []api.Frame{{Module: "rt", Func: "goexit", Addr: -1}, {Module: "app", Func: "main", Addr: -1}}}}, []string{"Oops", "app!main"}},
		{"", sample(), []string{"Oops", "app!g", "app!h", "Low", "lib!f", "!bare"}},
		{"kind:\"Oops\" -> hide\n", sample(), []string{"Low", "lib!f", "!bare"}},
		{"kind:\"Low\" -> hide\n", sample(), []string{"Oops", "app!g", "app!h"}},
		{"-> show most=1\n", sample(), []string{"Oops", "lib!f", "Low", "lib!f"}},
		{"-> hide\n", sample(), []string{"Oops", "no <n>", "Low", "", "None", "at <a>"}},
		{"-> key=\"a b\" hide\n", sample(), []string{"key", "a b"}},
		{"-> key=\"0x12\"\n", sample(), []string{"key", "0x12"}},
		{"", []api.Fault{{Kind: "K1", Text: "\"1\""}}, []string{"K1", "<s>"}},
		{"", []api.Fault{{Kind: "a!1", Frames: []api.Frame{{Module: "m!", Func: "f1", Addr: 3}}}}, []string{"a!1", "m!!f1"}},
	} {
		l := rules(t, c.rules)
		parts, e := group.Parts(l, c.faults)
		if !slices.Equal(parts, c.want) || e != api.OK {
			t.Errorf("%q: %q %v, not %q", c.rules, parts, e, c.want)
		}
		if s, e := group.Print(l, c.faults); s != group.Digest(c.want) || e != api.OK {
			t.Errorf("%q: %q %v", c.rules, s, e)
		}
	}
}

// P5.5
func TestDigest(t *testing.T) {
	for _, c := range []struct {
		parts []string
		want  string
	}{{nil, "cbf29ce484222325"}, {[]string{""}, "af63bd4c8601b7df"}} {
		if got := group.Digest(c.parts); got != c.want {
			t.Errorf("%q: %s", c.parts, got)
		}
	}
	r := rand.New(rand.NewSource(4))
	short := 0
	for range 10_000 {
		var parts []string
		sum := fnv.New64a()
		for range r.Intn(4) {
			part := randomFrom(r, "ab\x00\xff", 3)
			parts = append(parts, part)
			sum.Write([]byte(part + "\x00"))
		}
		want := strconv.FormatUint(sum.Sum64(), 16)
		if len(want) < 16 {
			short++
		}
		if got := group.Digest(parts); got != strings.Repeat("0", 16-len(want))+want {
			t.Fatalf("%q: %s, not %s", parts, got, want)
		}
	}
	if short == 0 {
		t.Error("no short sum")
	}
}

// What follows from P5.5: numbers, addresses and quoted strings make no other print.
func TestPrintSame(t *testing.T) {
	r := rand.New(rand.NewSource(6))
	fill := func(s string) string {
		return strings.NewReplacer("#", strconv.Itoa(r.Intn(1000)), "@", "0x"+strconv.FormatInt(r.Int63(), 16), "'", "\""+randomFrom(r, "ab 1", 5)+"\"").Replace(s)
	}
	l := rules(t, "module:\"b\" -> hide\nkind:\"ab\" -> show\nown -> most=2\n")
	for range 5000 {
		faults := randomFaults(r)
		other := slices.Clone(faults)
		for i := range faults {
			text := strings.Join(strings.Split(randomFrom(r, "#@'gx-", 8), ""), " ")
			faults[i].Text, other[i].Text = fill(text), fill(text)
		}
		a, e := group.Print(l, faults)
		b, x := group.Print(l, other)
		if a != b || e != api.OK || x != api.OK {
			t.Fatalf("%v %v: %s %v, %s %v", faults, other, a, e, b, x)
		}
	}
}
