package metric_test

import (
	"math/rand"
	"slices"
	"strconv"
	"testing"

	"serif/api"
	"serif/metric"
	"serif/sfnt"
)

// kinds: a right font of each kind, of each form of loca.
func kinds() map[string]source {
	return map[string]source{
		"glyf, halves": right(api.KindGlyf, 3, 2, 0),
		"glyf, wholes": right(api.KindGlyf, 3, 2, 1),
		"CFF, halves":  right(api.KindCff, 3, 2, 0),
		"CFF, wholes":  right(api.KindCff, 3, 2, 1),
	}
}

// P4.1, each field by hand.
func TestReadFields(t *testing.T) {
	want := api.Metrics{
		Kind: 1, Units: 1000, Glyphs: 3, Ascent: 800, Descent: -200, Gap: 90,
		Advances: []int{500, 501, 501}, Bearings: []int{3, 2, 1}, Places: []int{0, 4, 8, 12},
	}
	for _, form := range []int{0, 1} {
		if m, e := metric.Read(right(1, 3, 2, form).open(t)); e != 0 || !same(m, want) {
			t.Error(form, m, e)
		}
	}
	want.Kind, want.Places = 2, nil
	if m, e := metric.Read(right(2, 3, 2, 0).open(t)); e != 0 || !same(m, want) {
		t.Error(m, e)
	}
}

// P4.1: each table not there, just long enough, longer, and one byte too short.
func TestReadTables(t *testing.T) {
	for name, s := range kinds() {
		reads(t, name, s, 0)
		for tag, table := range s.tables {
			at := name + ", " + tag
			reads(t, at+" not there", s.with(tag, nil), api.ErrMetric)
			reads(t, at+" longer", s.with(tag, append(slices.Clone(table), 0xA7)), 0)
			if tag == "glyf" || tag == "CFF " {
				continue
			}
			for n := range len(table) {
				reads(t, at+" of "+strconv.Itoa(n), s.with(tag, table[:n]), api.ErrMetric)
			}
		}
	}
}

// P4.1: glyf and CFF may be empty; neither is asked for in a font of the other kind.
func TestReadOutlineTables(t *testing.T) {
	s := right(1, 2, 2, 0).with("glyf", []byte{}).with("loca", loca(0, 0, 0, 0))
	reads(t, "an empty glyf", s, 0)
	reads(t, "an empty glyf, wholes", s.with("head", head(1000, 1)).with("loca", loca(1, 0, 0, 0)), 0)
	reads(t, "no glyf", s.with("glyf", nil), api.ErrMetric)
	reads(t, "CFF in place of glyf", s.with("glyf", nil).with("CFF ", filler(4)), api.ErrMetric)
	c := right(2, 2, 2, 0)
	reads(t, "an empty CFF", c.with("CFF ", []byte{}), 0)
	reads(t, "a wrong loca beside CFF", c.with("loca", filler(1)), 0)
	reads(t, "falling places beside CFF", c.with("loca", loca(0, 8, 4, 0)).with("glyf", filler(2)), 0)
	reads(t, "glyf in place of CFF", c.with("CFF ", nil).with("glyf", filler(8)).with("loca", loca(0, 0, 4, 8)), api.ErrMetric)
}

func TestReadHead(t *testing.T) {
	for name, s := range kinds() {
		for at := 12; at < 16; at++ {
			b := s.tables["head"][at]
			reads(t, name+", head's mark", s.poke("head", at, b+1), api.ErrMetric)
			reads(t, name+", head's mark", s.poke("head", at, b^0x80), api.ErrMetric)
		}
		for units, want := range map[int]api.Errno{0: 41, 1: 41, 15: 41, 16: 0, 17: 0, 256: 0, 2048: 0, 16383: 0, 16384: 0, 16385: 41, 32768: 41, 65535: 41} {
			reads(t, name+", units", s.poke("head", 18, u16s(units)...), want)
		}
		for _, form := range []int{2, 3, 256, 257, 32768, 65535} {
			reads(t, name+", form of loca", s.poke("head", 50, u16s(form)...), api.ErrMetric)
		}
		for _, format := range []int{1, 256, 32768, 65535} {
			reads(t, name+", format of head", s.poke("head", 52, u16s(format)...), api.ErrVersion)
		}
	}
	if m, e := metric.Read(right(1, 1, 1, 0).poke("head", 18, 64, 0).open(t)); e != 0 || m.Units != 16384 {
		t.Error(m, e)
	}
	// The wrong form reads other places of the same bytes.
	s := right(1, 1, 1, 1).with("loca", u32s(0, 4)).with("glyf", filler(4))
	reads(t, "wholes", s, 0)
	reads(t, "wholes as halves", s.poke("head", 50, 0, 0), 0)
	reads(t, "halves as wholes, too short", right(1, 3, 1, 0).poke("head", 50, 0, 1), api.ErrMetric)
}

func TestReadMaxp(t *testing.T) {
	for name, s := range kinds() {
		for _, version := range []int{80 << 8, 1 << 16} {
			reads(t, name+", version", s.with("maxp", maxp(version, 3)), 0)
		}
		for _, version := range []int{0, 1, 80, 80<<8 - 1, 80<<8 + 1, 81 << 8, 1<<16 - 1, 1<<16 + 1, 1<<16 + 80<<8, 2 << 16, 80 << 16, 1 << 24, 1<<32 - 1} {
			reads(t, name+", version", s.with("maxp", maxp(version, 3)), api.ErrVersion)
		}
		reads(t, name+", no glyphs", s.with("maxp", maxp(1<<16, 0)), api.ErrMetric)
		for _, n := range []int{4097, 4098, 8192, 32768, 65535} {
			reads(t, name+", too many glyphs", s.with("maxp", maxp(1<<16, n)), api.ErrGlyphs)
		}
		reads(t, name+", more glyphs than rows", s.with("maxp", maxp(1<<16, 4)), api.ErrMetric)
		reads(t, name+", as many glyphs as wide rows", s.with("maxp", maxp(1<<16, 2)), 0)
	}
}

// P4.1: 1 and MaxGlyphs glyphs, of both kinds, with one wide row and with as many as glyphs.
func TestReadGlyphs(t *testing.T) {
	for _, kind := range []int{1, 2} {
		for _, form := range []int{0, 1} {
			for _, glyphs := range []int{1, 2, 4095, 4096} {
				for _, wide := range []int{1, 2, glyphs - 1, glyphs} {
					if wide < 1 || wide > glyphs {
						continue
					}
					s := right(kind, glyphs, wide, form)
					reads(t, "glyphs", s, 0)
					for tag, table := range s.tables {
						if tag == "hmtx" || tag == "loca" || tag == "glyf" {
							reads(t, "glyphs, a byte less of "+tag, s.with(tag, table[:len(table)-1]), api.ErrMetric)
						}
					}
				}
			}
			reads(t, "one glyph too many", right(kind, 4097, 1, form), api.ErrGlyphs)
			reads(t, "no glyph", right(kind, 0, 0, form), api.ErrMetric)
		}
	}
}

func TestReadHhea(t *testing.T) {
	for name, s := range kinds() {
		for wide, want := range map[int]api.Errno{0: 41, 1: 0, 2: 0, 3: 0, 4: 41, 256: 41, 32768: 41, 65535: 41} {
			reads(t, name+", wide rows", s.with("hhea", hhea(1, 2, 3, wide)).with("hmtx", filler(16)), want)
		}
		// Three wide rows need two bytes more than two.
		reads(t, name+", wide rows, hmtx too short", s.with("hhea", hhea(1, 2, 3, 3)), api.ErrMetric)
		for _, n := range []int{-32768, -1, 0, 1, 32767} {
			m, e := metric.Read(s.with("hhea", hhea(n, -n-1, n, 2)).open(t))
			if e != 0 || m.Ascent != n || m.Descent != -n-1 || m.Gap != n {
				t.Error(n, m.Ascent, m.Descent, m.Gap, e)
			}
		}
	}
}

// P4.1: advances have no sign, bearings have one.
func TestReadHmtx(t *testing.T) {
	s := right(2, 4, 2, 0).with("hmtx", u16s(0, -32768, 65535, -1, 32767, 32768))
	m, e := metric.Read(s.open(t))
	if e != 0 || !slices.Equal(m.Advances, []int{0, 65535, 65535, 65535}) || !slices.Equal(m.Bearings, []int{-32768, -1, 32767, -32768}) {
		t.Error(m, e)
	}
	s = right(2, 2, 2, 0).with("hmtx", u16s(32768, 32767, 7, 0))
	m, e = metric.Read(s.open(t))
	if e != 0 || !slices.Equal(m.Advances, []int{32768, 7}) || !slices.Equal(m.Bearings, []int{32767, 0}) {
		t.Error(m, e)
	}
}

// P4.1: places that rise, are equal, fall, end just at glyf's length and beyond it.
func TestReadPlaces(t *testing.T) {
	for _, form := range []int{0, 1} {
		s := right(1, 3, 1, form).with("glyf", filler(20))
		for _, c := range []struct {
			list []int
			want api.Errno
		}{
			{[]int{0, 0, 0, 0}, 0}, {[]int{0, 4, 4, 8}, 0}, {[]int{20, 20, 20, 20}, 0}, {[]int{2, 6, 14, 18}, 0},
			{[]int{0, 4, 8, 20}, 0}, {[]int{0, 4, 8, 22}, 41}, {[]int{22, 22, 22, 22}, 41},
			{[]int{4, 2, 8, 20}, 41}, {[]int{0, 8, 6, 20}, 41}, {[]int{0, 4, 20, 18}, 41}, {[]int{0, 22, 4, 8}, 41}, {[]int{2, 0, 0, 0}, 41},
		} {
			reads(t, "places", s.with("loca", loca(form, c.list...)), c.want)
		}
	}
	s := right(1, 1, 1, 1).with("glyf", filler(7))
	for _, c := range []struct {
		list []int
		want api.Errno
	}{
		{[]int{1, 7}, 0}, {[]int{7, 7}, 0}, {[]int{3, 2}, 41}, {[]int{0, 8}, 41}, {[]int{0, 1 << 31}, 41}, {[]int{0, 1<<32 - 1}, 41},
		{[]int{1<<32 - 1, 0}, 41}, {[]int{1 << 31, 1 << 31}, 41}, {[]int{0, 65536}, 41}, {[]int{1<<32 - 4, 4}, 41},
	} {
		reads(t, "wholes", s.with("loca", u32s(c.list...)), c.want)
	}
	// Halves reach beyond two bytes once they are doubled.
	h := right(1, 1, 1, 0).with("loca", u16s(32767, 65535))
	reads(t, "far halves", h.with("glyf", filler(131070)), 0)
	reads(t, "too far halves", h.with("glyf", filler(131069)), api.ErrMetric)
	reads(t, "an odd length", right(1, 1, 1, 0).with("glyf", filler(5)), 0)
}

// P4.1: of two faults the first in the chapter's order is answered.
func TestReadFirstFault(t *testing.T) {
	// fault: how a right font goes wrong, in the chapter's order.
	type fault struct {
		name  string
		wrong func(source) source
		want  api.Errno
	}
	faults := []fault{
		{"head's mark", func(s source) source { return s.poke("head", 12, 0) }, 41},
		{"units", func(s source) source { return s.poke("head", 18, 0, 15) }, 41},
		{"form of loca", func(s source) source { return s.poke("head", 50, 0, 2) }, 41},
		{"format of head", func(s source) source { return s.poke("head", 52, 0, 1) }, 42},
		{"version of maxp", func(s source) source { return s.poke("maxp", 0, 7) }, 42},
		{"many glyphs", func(s source) source { return s.poke("maxp", 4, 16, 1) }, 43},
		{"wide rows", func(s source) source { return s.poke("hhea", 34, 0, 0) }, 41},
	}
	for _, kind := range []int{1, 2} {
		s := right(kind, 3, 2, 0)
		for i, first := range faults {
			for _, second := range faults[i+1:] {
				reads(t, first.name+" and "+second.name, second.wrong(first.wrong(s)), first.want)
			}
			// A table that isn't there behind the fault doesn't count.
			for _, tag := range []string{"hhea", "hmtx", "loca", "glyf", "CFF "} {
				if i < 6 {
					reads(t, first.name+" without "+tag, first.wrong(s).with(tag, nil), first.want)
				}
			}
		}
		reads(t, "format of head, no maxp", s.poke("head", 52, 0, 1).with("maxp", nil), 42)
		reads(t, "short head with a wrong format", s.with("head", s.poke("head", 52, 0, 1).tables["head"][:53]), 41)
		reads(t, "form ahead of format", s.poke("head", 50, 0, 2, 0, 1), 41)
		reads(t, "version and no glyphs", s.with("maxp", maxp(7, 0)), 42)
		reads(t, "version and many glyphs", s.with("maxp", maxp(7, 5000)), 42)
		reads(t, "short maxp with a wrong version", s.with("maxp", maxp(7, 5000)[:5]), 41)
		reads(t, "many glyphs, hhea short", s.with("maxp", maxp(65536, 5000)).with("hhea", filler(35)), 43)
	}
}

// Changed fonts: Read and the model answer the same.
func TestReadChanged(t *testing.T) {
	r := rand.New(rand.NewSource(4))
	seen := map[api.Errno]int{}
	spots := map[string][]int{"head": {12, 13, 14, 15, 18, 19, 50, 51, 52, 53}, "maxp": {0, 1, 2, 3, 4, 5}, "hhea": {4, 5, 6, 7, 8, 9, 34, 35}}
	values := []byte{0, 1, 2, 15, 16, 17, 64, 80, 127, 128, 255}
	for range 60000 {
		glyphs := 1 + r.Intn(6)
		s := right(1+r.Intn(2), glyphs, 1+r.Intn(glyphs), r.Intn(2))
		for range r.Intn(4) {
			tags := []string{"head", "maxp", "hhea", "hmtx", "loca", "glyf", "CFF "}
			tag := tags[r.Intn(len(tags))]
			table := s.tables[tag]
			switch {
			case len(table) == 0:
			case r.Intn(8) == 0:
				s = s.with(tag, nil)
			case r.Intn(6) == 0:
				s = s.with(tag, table[:len(table)-r.Intn(min(4, len(table)))])
			case spots[tag] != nil:
				if at := spots[tag][r.Intn(len(spots[tag]))]; at < len(table) {
					s = s.poke(tag, at, values[r.Intn(len(values))])
				}
			default:
				s = s.poke(tag, r.Intn(len(table)), byte(r.Intn(12)))
			}
		}
		want, e := model(s)
		seen[e]++
		if m, got := metric.Read(s.open(t)); got != e || !same(m, want) {
			t.Fatalf("%v: Read answers %v, %v; not %v, %v", s, m, got, want, e)
		}
	}
	for _, e := range []api.Errno{0, 41, 42, 43} {
		if seen[e] < 100 {
			t.Errorf("only %d changed fonts answer %v", seen[e], e)
		}
	}
}

// What Read answers is new memory: no two lists share any, and no two answers.
func TestReadNewMemory(t *testing.T) {
	for _, s := range []source{right(1, 5, 2, 0), right(1, 5, 5, 1), right(2, 5, 1, 0)} {
		b := s.file(t)
		f, e := sfnt.Open(b, 0)
		if e != 0 {
			t.Fatal(e)
		}
		want, _ := model(s)
		first, _ := metric.Read(f)
		for i := range b {
			b[i] = 0x55
		}
		second, _ := metric.Read(f)
		third, _ := metric.Read(f)
		for i, l := range [][]int{first.Advances, first.Bearings, first.Places, second.Advances, second.Bearings, second.Places} {
			l = l[:cap(l)]
			for k := range l {
				l[k] = -1000 - i
			}
		}
		for i, l := range [][]int{first.Advances, first.Bearings, first.Places, second.Advances, second.Bearings, second.Places} {
			for _, n := range l {
				if n != -1000-i {
					t.Fatal("two lists share memory")
				}
			}
		}
		if !same(third, want) {
			t.Error("an answer changed with another", third)
		}
		if again, e := metric.Read(f); e != 0 || !same(again, want) {
			t.Error("the font changed with its answer", again, e)
		}
	}
}

// The tables of the face that was asked for are read, not those of another in the same file.
func TestReadCollection(t *testing.T) {
	one, two := right(1, 3, 2, 0), right(1, 2, 1, 1)
	a, b := one.file(t), two.file(t)
	file := append([]byte("ttcf"), u32s(1<<16, 2, 20, 20+len(a))...)
	for _, part := range [][]byte{a, b} {
		at := len(file)
		file = append(file, part...)
		for i := range word(part, 4) {
			row := file[at+12+16*i:]
			copy(row[8:], u32s(at+word(row, 8)<<16+word(row, 10)))
		}
	}
	for face, s := range []source{one, two} {
		f, e := sfnt.Open(file, face)
		if e != 0 {
			t.Fatal(e)
		}
		want, _ := model(s)
		if m, e := metric.Read(f); e != 0 || !same(m, want) {
			t.Error(face, m, e)
		}
	}
}

// The chapter's errors have their numbers, and the limits theirs.
func TestNumbers(t *testing.T) {
	got := []int{int(api.ErrMetric), int(api.ErrVersion), int(api.ErrGlyphs), int(api.ErrScale), int(api.ErrGlyph), api.MaxGlyphs, api.MaxSize, api.KindGlyf, api.KindCff}
	if want := []int{41, 42, 43, 44, 45, 4096, 65536, 1, 2}; !slices.Equal(got, want) {
		t.Error(got, want)
	}
}
