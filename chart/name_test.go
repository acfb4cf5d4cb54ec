package chart

import (
	"math/rand"
	"slices"
	"strings"
	"testing"
)

// P17.2: each account's name, and back.
func TestNames(t *testing.T) {
	for n, want := range names() {
		if got := Name(n); got != want {
			t.Errorf("%d: %q; wanted %q", n, got, want)
		}
		if got := Account(want); got != n {
			t.Errorf("%q: %d; wanted %d", want, got, n)
		}
		if got := Account(strings.Clone(want)); got != n {
			t.Errorf("%q: %d; wanted %d", want, got, n)
		}
	}
	for _, x := range []struct {
		account int
		name    string
	}{{Cash, "cash"}, {Loans, "loans"}, {Allowance, "allowance"}, {Income, "income"}, {Effects, "effects"}, {Impaired, "impaired"}, {Recovered, "recovered"}} {
		if Name(x.account) != x.name || Account(x.name) != x.account {
			t.Errorf("%d, %q: %q, %d", x.account, x.name, Name(x.account), Account(x.name))
		}
	}
}

// P17.2: of no account there is no name.
func TestNoName(t *testing.T) {
	for _, n := range wrongNumbers() {
		if got := Name(n); got != "" {
			t.Errorf("%d: %q", n, got)
		}
	}
	for n := -1000; n <= 1000; n++ {
		if got := Name(n); (got != "") != (n >= 1 && n <= 7) {
			t.Errorf("%d: %q", n, got)
		}
	}
}

// noNames are near to names: other letters, capital ones, a byte or a blank more, a byte less, two in one.
func noNames() []string {
	l := []string{"x", " ", "\x00", "0", "1", "cash loans", "cash,loans", "outlay", "provide", "recover", "writeoff", "loan", "сash", "cash\u0301", "\xff\xfe", strings.Repeat("cash", 100000)}
	for _, name := range names()[1:] {
		l = append(l, strings.ToUpper(name), strings.ToUpper(name[:1])+name[1:], name[:len(name)-1]+strings.ToUpper(name[len(name)-1:]))
		for at := range len(name) + 1 {
			for _, more := range []string{" ", "s", "a", "\x00", "\n", "\xff"} {
				l = append(l, name[:at]+more+name[at:])
			}
		}
		for at := range len(name) {
			l = append(l, name[:at]+name[at+1:], name[:at]+"q"+name[at+1:], name[:at]+string(name[at]^0x80)+name[at+1:])
		}
		for _, other := range names()[1:] {
			l = append(l, name+other)
		}
	}
	return l
}

// P17.2: of no name there is no account.
func TestNoAccount(t *testing.T) {
	if got := Account(""); got != 0 {
		t.Error(got)
	}
	for _, name := range noNames() {
		if slices.Contains(names(), name) {
			t.Fatal(name)
		}
		if got := Account(name); got != 0 {
			t.Errorf("%.40q: %d", name, got)
		}
	}
}

// P17.2: texts anyhow, of the letters of names.
func TestNamesAnyhow(t *testing.T) {
	r := rand.New(rand.NewSource(4))
	letters := strings.Join(names(), "")
	for range 100000 {
		var b strings.Builder
		for range r.Intn(6) {
			b.WriteByte(letters[r.Intn(len(letters))])
		}
		text := b.String()
		want := max(slices.Index(names(), text), 0)
		if got := Account(text); got != want {
			t.Errorf("%q: %d; wanted %d", text, got, want)
		}
	}
}

// The generic function itself, of other types: the first that has the key, asked in order and no further; false, and nothing, if none has it.
func TestLookUp(t *testing.T) {
	var asked []string
	length := func(text string) int {
		asked = append(asked, text)
		return len(text)
	}
	list := []string{"abc", "d", "ef", "gh", "i"}
	if got, ok := lookUp(list, 2, length); got != "ef" || !ok {
		t.Error(got, ok)
	}
	if !slices.Equal(asked, list[:3]) {
		t.Error(asked)
	}
	if got, ok := lookUp(list, 4, length); got != "" || ok {
		t.Error(got, ok)
	}
	if got, ok := lookUp(nil, 0, length); got != "" || ok {
		t.Error(got, ok)
	}
	even := func(n int64) [2]bool { return [2]bool{n%2 == 0, n < 0} }
	if got, ok := lookUp([]int64{1, 3, -5, -8, -2}, [2]bool{true, true}, even); got != -8 || !ok {
		t.Error(got, ok)
	}
	if got, ok := lookUp([]int64{1, 3, -5, -8}, [2]bool{true, false}, even); got != 0 || ok {
		t.Error(got, ok)
	}
	if got, ok := lookUp([]int{0}, 0, func(n int) int { return n }); got != 0 || !ok {
		t.Error(got, ok)
	}
}
