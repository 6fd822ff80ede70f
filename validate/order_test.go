package validate_test

import (
	"fmt"
	"slices"
	"testing"

	"calque/api"
)

// A mistake changes a locale in the third place of the table full, or the first one, so that it has an error.
type mistake struct {
	name   string
	e      api.Errno
	change func(l *api.Locale)
}

// mistakes returns mistakes in the order of the chapter, one of each kind.
func mistakes(isRoot bool) []mistake {
	l := []mistake{
		{"a wrong place", api.ErrData, func(l *api.Locale) { l.Parent = "" }},
		{"a tag that is there already", api.ErrDuplicate, func(l *api.Locale) { l.Tag = "und" }},
		{"no such parent", api.ErrUnknown, func(l *api.Locale) { l.Parent = "pl" }},
		{"overlapping rules", api.ErrOverlap, func(l *api.Locale) { l.Ordinal = rules("i = 3", "n = 3") }},
		{"a wrong pattern", api.ErrForm, func(l *api.Locale) { l.Dates = []api.DatePattern{{Skeleton: "d", Pattern: "y"}} }},
		{"a unit without other", api.ErrOther, func(l *api.Locale) {
			l.Units = append(l.Units, api.UnitPattern{Unit: "x", Class: "one", Pattern: "{0}"})
		}},
	}
	if !isRoot {
		return l
	}
	l[0].change = func(l *api.Locale) { l.Tag = "de" }
	return append(slices.Delete(l, 1, 3), mistake{"missing data", api.ErrData, func(l *api.Locale) { l.Days = nil }})
}

// TestOrderOfErrors looks at locales with one or several errors, the first of which counts.
func TestOrderOfErrors(t *testing.T) {
	for _, at := range []int{0, 2} {
		all := mistakes(at == 0)
		for chosen := 1; chosen < 1<<len(all); chosen++ {
			x := full()
			first := -1
			// Later mistakes come first, so that the parent is missing where it is unknown, too.
			for i := len(all) - 1; i >= 0; i-- {
				if chosen>>i&1 == 1 {
					all[i].change(&x.Locales[at])
					first = i
				}
			}
			expect(t, fmt.Sprintf("%s before others (%b)", all[first].name, chosen), x, at, all[first].e)
			check(t, "several errors", x)
		}
	}
}

// TestBothErrors looks at locales of which one value, or two values, have errors of two kinds.
func TestBothErrors(t *testing.T) {
	for i, c := range []struct {
		change func(x *api.Table)
		e      api.Errno
	}{
		{func(x *api.Table) { x.Locales[2] = api.Locale{Tag: "und"} }, api.ErrData},
		{func(x *api.Table) { x.Locales[2] = api.Locale{Tag: "und", Parent: "und"} }, api.ErrDuplicate},
		{func(x *api.Table) { x.Locales[2] = api.Locale{Tag: "en", Parent: "fr"} }, api.ErrDuplicate},
		{func(x *api.Table) {
			x.Locales[2] = api.Locale{Tag: "de", Parent: "de", Cardinal: rules("n = 1", "n = 1")}
		}, api.ErrUnknown},
		{func(x *api.Table) {
			x.Locales[2].Cardinal, x.Locales[2].Lists = rules("n = 1", "n = 1"), []api.ListPattern{{Style: "or"}}
		}, api.ErrOverlap},
		{func(x *api.Table) {
			x.Locales[2].Ordinal, x.Locales[2].Units = rules("n = 1", "n = 1"), []api.UnitPattern{{Unit: "m", Class: "one"}}
		}, api.ErrOverlap},
		{func(x *api.Table) { x.Locales[2].Units = []api.UnitPattern{{Unit: "m", Class: "one"}} }, api.ErrForm},
	} {
		x := full()
		c.change(&x)
		expect(t, fmt.Sprintf("both errors (%d)", i), x, 2, c.e)
		check(t, "both errors", x)
	}
}

// TestOrderOfParts puts errors into several parts, the first of which counts.
func TestOrderOfParts(t *testing.T) {
	changes := []struct {
		index  int
		e      api.Errno
		change func(x *api.Table)
	}{
		{0, api.ErrOther, func(x *api.Table) { x.Locales[0].Units = []api.UnitPattern{{Unit: "m", Class: "one", Pattern: "{0}"}} }},
		{1, api.ErrOverlap, func(x *api.Table) { x.Locales[1].Cardinal = rules("n = 1", "i = 1") }},
		{4, api.ErrData, func(x *api.Table) { x.Locales[4].Parent = "" }},
		{5, api.ErrCycle, func(x *api.Table) { x.Aliases[0].From = x.Aliases[0].To }},
		{8, api.ErrDuplicate, func(x *api.Table) { x.Aliases[3].From = "d" }},
		{9, api.ErrForm, func(x *api.Table) { x.Near[0].From = "b" }},
		{11, api.ErrDuplicate, func(x *api.Table) { x.Near[2] = api.Near{From: "c", To: "b"} }},
	}
	for chosen := 1; chosen < 1<<len(changes); chosen++ {
		x := full()
		first := -1
		for i := len(changes) - 1; i >= 0; i-- {
			if chosen>>i&1 == 1 {
				changes[i].change(&x)
				first = i
			}
		}
		expect(t, fmt.Sprintf("several parts (%b)", chosen), x, changes[first].index, changes[first].e)
		check(t, "several parts", x)
	}
}
