package event_test

import (
	"math/big"
	"math/rand"
	"slices"
	"strconv"
	"strings"
	"testing"

	"inquest/api"
	"inquest/event"
)

// P4.3
func TestSum(t *testing.T) {
	for s, want := range map[string]string{"": "cbf29ce484222325", "a": "af63dc4c8601ec8c", "foobar": "85944171f73967e8", "\x00": "af63bd4c8601b7df"} {
		if got := event.Sum(s); got != want {
			t.Errorf("%q: %s", s, got)
		}
	}
	r := rand.New(rand.NewSource(3))
	zeros := 0
	for range 3000 {
		b := make([]byte, r.Intn(20))
		r.Read(b)
		h, _ := new(big.Int).SetString("14695981039346656037", 10)
		for _, x := range b {
			h.Xor(h, big.NewInt(int64(x)))
			h.Mul(h, big.NewInt(1099511628211))
			h.Mod(h, new(big.Int).Lsh(big.NewInt(1), 64))
		}
		want := h.Text(16)
		if len(want) < 16 {
			zeros++
			want = strings.Repeat("0", 16-len(want)) + want
		}
		if got := event.Sum(string(b)); got != want {
			t.Fatalf("%q: %s, not %s", b, got, want)
		}
	}
	if zeros < 100 {
		t.Error("only", zeros, "digests begin with 0")
	}
}

// envelope is what is behind the first line, sealed as so many items.
func envelope(count, rest string) string {
	return "envelope " + count + " " + event.Sum(rest) + "\n" + rest
}

// items are so many items with bodies of so many bytes.
func items(n, long int) []event.Item {
	return slices.Repeat([]event.Item{{Kind: "k", Body: word(long)}}, n)
}

// P4.7 and what follows: Open of Seal are the items.
func TestSeal(t *testing.T) {
	for _, c := range []struct {
		items []event.Item
		want  string
	}{
		{nil, envelope("0", "")},
		{[]event.Item{{Kind: "a"}}, envelope("1", "a 0\n\n")},
		{[]event.Item{{Kind: "a", Body: "x"}, {Kind: "b.c", Body: "y\nz"}, {Kind: "b.c", Body: "y\nz"}}, envelope("3", "a 1\nx\nb.c 3\ny\nz\nb.c 3\ny\nz\n")},
		{[]event.Item{{Kind: word(40), Body: "\n\n\x00\xff a 1\nx\n"}}, envelope("1", word(40)+" 11\n\n\n\x00\xff a 1\nx\n\n")},
		{items(100, 11), envelope("100", strings.Repeat("k 11\n"+word(11)+"\n", 100))},
	} {
		s, x := event.Seal(c.items)
		if s != c.want || x != api.OK {
			t.Errorf("%.100q %v, not %.100q", s, x, c.want)
		}
		if l, x := event.Open(c.want); !slices.Equal(l, c.items) || x != api.OK {
			t.Errorf("%.100q: %v %v", c.want, l, x)
		}
	}
	r := rand.New(rand.NewSource(8))
	for range 3000 {
		var l []event.Item
		for range r.Intn(8) {
			l = append(l, event.Item{Kind: "k" + randomFrom(r, "a.-_0", 3), Body: randomFrom(r, "a 1\n\x00\xff", 12)})
		}
		s, x := event.Seal(l)
		if x != api.OK {
			t.Fatal(l, x)
		}
		if got, x := event.Open(s); !slices.Equal(got, l) || x != api.OK {
			t.Fatal(l, got, x)
		}
	}
}

// P4.7
func TestSealErrors(t *testing.T) {
	first := len(envelope("1", "")) + len("k 999900\n\n")
	for _, c := range []struct {
		name  string
		items []event.Item
		want  api.Errno
	}{
		{"many", items(101, 0), api.ErrLarge},
		{"many, one without a name", make([]event.Item, 101), api.ErrLarge},
		{"no name", []event.Item{{}}, api.ErrName},
		{"name", []event.Item{{Kind: "a"}, {Kind: "a b"}}, api.ErrName},
		{"long name", []event.Item{{Kind: word(41)}}, api.ErrName},
		{"line feed", []event.Item{{Kind: "a\n"}}, api.ErrName},
		{"large", items(1, api.MaxText-first), api.OK},
		{"too large", items(1, api.MaxText-first+1), api.ErrLarge},
		{"too large without its first line", items(1, api.MaxText), api.ErrLarge},
		{"far too large", items(100, 50_000_000), api.ErrLarge},
		{"too large in all", items(100, 10_000), api.ErrLarge},
		{"too large, and a name", append(items(1, api.MaxText), event.Item{Kind: "A"}), api.ErrName},
	} {
		s, x := event.Seal(c.items)
		if x != c.want || (s == "") != (x != api.OK) {
			t.Errorf("%s: %d bytes %v, not %v", c.name, len(s), x, c.want)
		}
		if x != api.OK {
			continue
		}
		if l, x := event.Open(s); len(s) != api.MaxText || !slices.Equal(l, c.items) || x != api.OK {
			t.Errorf("%s: %d bytes, %v", c.name, len(s), x)
		}
	}
}

// P4.7
func TestOpenErrors(t *testing.T) {
	rest := "a 1\nx\nb.c 3\ny\nz\n"
	sum := event.Sum(rest)
	good := envelope("2", rest)
	for _, c := range []struct {
		text string
		want api.Errno
	}{
		{good, api.OK},
		{word(api.MaxText + 1), api.ErrLarge},
		// the first line
		{"", api.ErrSyntax},
		{"envelope", api.ErrSyntax},
		{"envelope 0 cbf29ce484222325", api.ErrSyntax},
		{"envelope 0 cbf29ce484222325\n", api.OK},
		{" " + good, api.ErrSyntax},
		{"Envelope 2 " + sum + "\n" + rest, api.ErrSyntax},
		{"envelope  2 " + sum + "\n" + rest, api.ErrSyntax},
		{"envelope 2  " + sum + "\n" + rest, api.ErrSyntax},
		{"envelope 2 " + sum + " \n" + rest, api.ErrSyntax},
		{"envelope 2 " + sum + "\r\n" + rest, api.ErrSyntax},
		{"envelope 2" + sum + "\n" + rest, api.ErrSyntax},
		{"envelope 2\n" + rest, api.ErrSyntax},
		{"envelope " + sum + "\n" + rest, api.ErrSyntax},
		{"envelope 2 " + sum[1:] + "\n" + rest, api.ErrSyntax},
		{"envelope 2 0" + sum + "\n" + rest, api.ErrSyntax},
		{"envelope 2 " + strings.ToUpper(sum) + "\n" + rest, api.ErrSyntax},
		{"envelope 2 " + sum[1:] + "g\n" + rest, api.ErrSyntax},
		{envelope("02", rest), api.ErrSyntax},
		{envelope("+2", rest), api.ErrSyntax},
		{envelope("-2", rest), api.ErrSyntax},
		{envelope("", rest), api.ErrSyntax},
		{envelope("x", rest), api.ErrSyntax},
		{envelope("1000", strings.Repeat("k 0\n\n", 1000)), api.ErrSyntax},
		{envelope("00", ""), api.ErrSyntax},
		// the digest comes before the rest
		{"envelope 2 " + id + "\n" + rest, api.ErrState},
		{"envelope 3 " + id + "\nx", api.ErrState},
		{"envelope 02 " + id + "\nx", api.ErrSyntax},
		{good + "\n", api.ErrState},
		// the rest
		{envelope("1", rest), api.ErrSyntax},
		{envelope("3", rest), api.ErrSyntax},
		{envelope("0", rest), api.ErrSyntax},
		{envelope("2", ""), api.ErrSyntax},
		{envelope("0", "\n"), api.ErrSyntax},
		{envelope("2", rest+"\n"), api.ErrSyntax},
		{envelope("1", "a"), api.ErrSyntax},
		{envelope("1", "a\n"), api.ErrSyntax},
		{envelope("1", "a \n\n"), api.ErrSyntax},
		{envelope("1", " 0\n\n"), api.ErrSyntax},
		{envelope("1", "a 0\n"), api.ErrSyntax},
		{envelope("1", "a 0"), api.ErrSyntax},
		{envelope("1", "a 1\nx"), api.ErrSyntax},
		{envelope("1", "a 1\nxy\n"), api.ErrSyntax},
		{envelope("1", "a 2\nx\n"), api.ErrSyntax},
		{envelope("1", "a 3\nx\n"), api.ErrSyntax},
		{envelope("1", "a 5\n\n"), api.ErrSyntax},
		{envelope("1", "a 01\nx\n"), api.ErrSyntax},
		{envelope("1", "a -1\nx\n"), api.ErrSyntax},
		{envelope("1", "a  1\nx\n"), api.ErrSyntax},
		{envelope("1", "a 1 \nx\n"), api.ErrSyntax},
		{envelope("1", "a b 1\nx\n"), api.ErrSyntax},
		{envelope("1", "a\nb 1\nx\n"), api.ErrSyntax},
		{envelope("1", "a 9999999\nx\n"), api.ErrSyntax},
		{envelope("1", "a 00000001\nx\n"), api.ErrSyntax},
		{envelope("1", "a 18446744073709551617\nx\n"), api.ErrSyntax},
		{envelope("2", "A 0\n\nx\n\n"), api.ErrSyntax},
		// the items
		{envelope("101", strings.Repeat("k 0\n\n", 101)), api.ErrLarge},
		{envelope("999", strings.Repeat("K 0\n\n", 999)), api.ErrLarge},
		{envelope("100", strings.Repeat("k 0\n\n", 99)+"K 0\n\n"), api.ErrName},
		{envelope("1", "\x00\xff 0\n\n"), api.ErrName},
		{envelope("1", word(41)+" 0\n\n"), api.ErrName},
	} {
		l, x := event.Open(c.text)
		if x != c.want || x != api.OK && len(l) > 0 {
			t.Errorf("%.80q: %v %v, not %v", c.text, l, x, c.want)
		}
		if x != api.OK {
			continue
		}
		if s, x := event.Seal(l); s != c.text || x != api.OK {
			t.Errorf("%q: %q %v", c.text, s, x)
		}
	}
}

// What follows from P4.7: another byte is noticed.
func TestOpenOther(t *testing.T) {
	s, x := event.Seal([]event.Item{{Kind: "a", Body: "x\n"}, {Kind: "b", Body: "a 0\n\n"}, {Kind: "c"}})
	if x != api.OK {
		t.Fatal(x)
	}
	for i := range len(s) {
		for b := range 256 {
			if s[i] == byte(b) {
				continue
			}
			if l, x := event.Open(s[:i] + string([]byte{byte(b)}) + s[i+1:]); len(l) > 0 || x == api.OK {
				t.Errorf("byte %d is %d: %v %v", i, b, l, x)
			}
		}
	}
}

// What follows from P4.2 and P4.7: events go through envelopes.
func TestSealEvents(t *testing.T) {
	var l []event.Item
	for i, e := range []api.Event{simple(), sample(), largest()} {
		s, x := event.Text(e)
		if x != api.OK {
			t.Fatal(x)
		}
		l = append(l, event.Item{Kind: "event." + strconv.Itoa(i), Body: s})
	}
	s, x := event.Seal(l)
	if x != api.OK {
		t.Fatal(x)
	}
	got, x := event.Open(s)
	if len(got) != 3 || x != api.OK {
		t.Fatal(len(got), x)
	}
	for i, e := range []api.Event{simple(), sample(), largest()} {
		if f, n, x := event.Read(got[i].Body); !event.Same(e, f) || n != 0 || x != api.OK {
			t.Error(i, n, x)
		}
	}
}
