package addr

import (
	"strconv"
	"strings"
	"testing"

	"oriel/api"
)

// isCell tells whether Parse answers what is wanted of a text.
func isCell(t *testing.T, s string, want api.Cell, wantIs bool) {
	t.Helper()
	if got, is := Parse(s); got != want || is != wantIs {
		t.Errorf("Parse(%.60q) = %v, %v; want %v, %v", s, got, is, want, wantIs)
	}
}

// isRect tells whether ParseRect answers what is wanted of a text.
func isRect(t *testing.T, s string, want api.Rect, wantIs bool) {
	t.Helper()
	if got, is := ParseRect(s); got != want || is != wantIs {
		t.Errorf("ParseRect(%.60q) = %v, %v; want %v, %v", s, got, is, want, wantIs)
	}
}

// P3.2: some names, as the chapter tells them.
func TestNames(t *testing.T) {
	for c, s := range map[api.Cell]string{
		cell(1, 1): "A1", cell(9, 26): "Z9", cell(10, 27): "AA10", cell(12, 27): "AA12", cell(10, 52): "AZ10",
		cell(10, 53): "BA10", cell(1, 256): "IV1", cell(4096, 1): "A4096", cell(4096, 256): "IV4096", cell(100, 234): "HZ100", cell(1000, 235): "IA1000",
	} {
		if got := Name(c); got != s {
			t.Errorf("Name(%v) = %q; want %q", c, got, s)
		}
		isCell(t, s, c, true)
	}
}

// P3.2, P3.5: all cells have their names, there and back.
func TestAllCells(t *testing.T) {
	for i, column := range columnNames() {
		for row := 1; row <= 4096; row++ {
			c, s := cell(row, i+1), column+strconv.Itoa(row)
			if got := Name(c); got != s {
				t.Fatalf("Name(%v) = %q; want %q", c, got, s)
			}
			if got, is := Parse(s); got != c || !is {
				t.Fatalf("Parse(%q) = %v, %v; want %v", s, got, is, c)
			}
		}
	}
}

// P3.2: what may not be has no name.
func TestNoName(t *testing.T) {
	for _, c := range wrongCells() {
		if got := Name(c); got != "" {
			t.Errorf("Name(%v) = %q", c, got)
		}
	}
	for _, r := range someRects() {
		if got := NameRect(r); MayRect(r) == (got == "") {
			t.Errorf("NameRect(%v) = %q", r, got)
		}
	}
}

// P3.2: texts that are no cell's name.
func TestNotParsed(t *testing.T) {
	for _, s := range []string{
		"", "A", "AA", "IV", "1", "12", "4096", "0", "A0", "A00", "A01", "A04096", "AA01", "a1", "aA1", "Aa1", "iv1", "a0",
		"IW1", "IZ1", "JA1", "ZZ1", "AAA1", "AAAA1", "IVA1", "A4097", "A5000", "A9999", "A10000", "A40960", "IV4097", "IW4096",
		" A1", "A1 ", "A 1", "\tA1", "A1\n", "A1\x00", "\x00A1", "+A1", "-A1", "A-1", "A+1", "A1.0", "A1e1", "A1,", "$A$1", "A$1", "=A1", "#A1", "A_1",
		"1A", "A1A", "A1A1", "A0B1", "A1B", "R1C1", "A1:", ":A1", ":", "A1:A1", "A1:B2",
		"\xff", "\xffA1", "A\xff1", "A1\xff", "É1", "Aé1", "Α1", "А1", "Ａ1", "A１", "A٣", "\u0141" + "1", "A\u0131", "A\ufffd", "A\u00b2", "\u0441" + "1",
	} {
		isCell(t, s, api.Cell{}, false)
	}
}

// P3.2: rows and columns of so many digits and letters that a count of them would wrap round.
func TestParseLong(t *testing.T) {
	for _, s := range []string{
		"A4294967297", "A18446744073709551617", "A9223372036854775808", "A18446744073709555712", "A340282366920938463463374607431768211457",
		"A" + strings.Repeat("1", 1<<16), "A1" + strings.Repeat("0", 1<<16), "A" + strings.Repeat("0", 1<<16) + "1", strings.Repeat("9", 1<<16),
		strings.Repeat("A", 1<<16) + "1", strings.Repeat("Z", 1<<16), strings.Repeat("A1", 1<<16), strings.Repeat("0", 1<<16) + "A1",
		"A1" + strings.Repeat(" ", 1<<16), strings.Repeat("\xff", 1<<16),
	} {
		isCell(t, s, api.Cell{}, false)
		isRect(t, s, api.Rect{}, false)
		isRect(t, s+":IV4096", api.Rect{}, false)
		isRect(t, "A1:"+s, api.Rect{}, false)
	}
	for n := 3; n <= 40; n++ {
		isCell(t, "A"+strings.Repeat("0", n)+"1", api.Cell{}, false)
		for letter := 'A'; letter <= 'Z'; letter++ {
			isCell(t, strings.Repeat(string(letter), n)+"1", api.Cell{}, false)
		}
	}
}

// P3.2, P3.5: all short texts of some pieces, held against the model; the name of what is read is the text.
func TestShortTexts(t *testing.T) {
	model := newNames()
	for _, s := range made([]string{"A", "I", "V", "W", "Z", "a", "0", "1", "4", "9", ":", " ", "\xc3"}, 5) {
		want, wantIs := model.cell(s)
		isCell(t, s, want, wantIs)
		if c, is := Parse(s); is && Name(c) != s {
			t.Errorf("Name(Parse(%q)) = %q", s, Name(c))
		}
		wantRect, wantIs := model.rect(s)
		isRect(t, s, wantRect, wantIs)
	}
}

// P3.2, P3.5: all texts a byte away from a name, held against the model.
func TestTextsBesideNames(t *testing.T) {
	model := newNames()
	for _, name := range []string{"A1", "Z9", "AA10", "AZ99", "IV1", "IV4096", "A4096", "HZ4095", "J999"} {
		for _, s := range beside(name) {
			want, wantIs := model.cell(s)
			isCell(t, s, want, wantIs)
		}
	}
	for _, name := range []string{"A1:A1", "A1:B3", "B2:B2", "A1:IV4096", "Z9:AA10"} {
		for _, s := range beside(name) {
			want, wantIs := model.rect(s)
			isRect(t, s, want, wantIs)
		}
	}
}

// P3.2, P3.5: rectangles' names, there and back.
func TestRects(t *testing.T) {
	for r, s := range map[api.Rect]string{
		rect(1, 1, 3, 2): "A1:B3", rect(2, 2, 2, 2): "B2:B2", rect(1, 1, 4096, 256): "A1:IV4096", rect(9, 26, 10, 27): "Z9:AA10",
		rect(4096, 256, 4096, 256): "IV4096:IV4096", rect(7, 1, 7, 256): "A7:IV7", rect(1, 7, 4096, 7): "G1:G4096",
	} {
		if got := NameRect(r); got != s {
			t.Errorf("NameRect(%v) = %q; want %q", r, got, s)
		}
		isRect(t, s, r, true)
	}
	for _, a := range goodCells() {
		for _, b := range goodCells() {
			if r := Span(a, b); NameRect(r) != Name(cell(r.Top, r.Left))+":"+Name(cell(r.Bottom, r.Right)) {
				t.Errorf("NameRect(%v) = %q", r, NameRect(r))
			} else {
				isRect(t, NameRect(r), r, true)
			}
		}
	}
}

// P3.2: texts that are no rectangle's name.
func TestNotParsedRect(t *testing.T) {
	for _, s := range []string{
		"", ":", "::", "A1", "A1:", ":A1", "A1::B3", "A1:B3:", ":A1:B3", "A1:B3:C4", "A1:B3:B3", "A1 B3", "A1;B3", "A1-B3", "A1..B3",
		"B3:A1", "B2:A1", "B1:A2", "A2:B1", "B1:A1", "A2:A1", "AA1:Z1", "A10:A9", "IV4096:A1",
		"a1:B3", "A1:b3", "A01:B3", "A1:B03", "A0:B3", "A1:B0", "A1:IW1", "A1:A4097", "A1:AAA1", "IW1:IW2", "A4097:A4098", "A:B", "1:2", "A:B3", "A1:B", "A1:3", "1:B3",
		" A1:B3", "A1:B3 ", "A1 :B3", "A1: B3", "A1:B3\n", "$A$1:$B$3", "-A1:B3", "A1:+B3", "A1\uff1aB3", "\xffA1:B3", "A1:B3\xff", "A1\x00:B3",
	} {
		isRect(t, s, api.Rect{}, false)
	}
}
