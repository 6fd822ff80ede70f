package validate

import (
	"slices"

	"calque/api"
	"calque/decide"
)

// root is the tag of the first locale.
const root = "und"

// The numbers of places of patterns.
const (
	placesOfList = 2
	placesOfUnit = 1
)

// checkLocale returns the first error of a locale behind others.
func checkLocale(before []api.Locale, l api.Locale) api.Errno {
	checks := []func(before []api.Locale, l api.Locale) api.Errno{checkPlace, checkTag, checkParent, checkRules, checkPatterns, checkUnits, checkRoot}
	for _, check := range checks {
		if e := check(before, l); e != api.OK {
			return e
		}
	}
	return api.OK
}

// checkPlace looks at what makes a locale the root, or another one.
func checkPlace(before []api.Locale, l api.Locale) api.Errno {
	if len(before) == 0 {
		return errorIf(l.Tag != root || l.Parent != "", api.ErrData)
	}
	return errorIf(l.Parent == "", api.ErrData)
}

// checkTag looks for a locale in front with the same tag.
func checkTag(before []api.Locale, l api.Locale) api.Errno {
	return errorIf(hasTag(before, l.Tag), api.ErrDuplicate)
}

// checkParent looks for the parent of a locale, if it has one.
func checkParent(before []api.Locale, l api.Locale) api.Errno {
	return errorIf(l.Parent != "" && !hasTag(before, l.Parent), api.ErrUnknown)
}

// hasTag reports whether one of some locales has a tag.
func hasTag(locales []api.Locale, tag string) bool {
	return slices.ContainsFunc(locales, func(l api.Locale) bool { return l.Tag == tag })
}

// checkRules looks for two rules that hold for the same number.
func checkRules(_ []api.Locale, l api.Locale) api.Errno {
	for _, rules := range [][]api.Rule{l.Cardinal, l.Ordinal} {
		if _, _, _, e := decide.Disjoint(rules); e != api.OK {
			return e
		}
	}
	return api.OK
}

// checkPatterns looks at the patterns of a locale, and at its skeletons.
func checkPatterns(_ []api.Locale, l api.Locale) api.Errno {
	good := all(l.Lists, isList) && all(l.Units, isUnit) && all(l.Dates, isDate)
	return errorIf(!good, api.ErrForm)
}

// isList reports whether all patterns of a list have their places.
func isList(l api.ListPattern) bool {
	return all([]string{l.Two, l.Start, l.Middle, l.End}, func(s string) bool { return Pattern(s, placesOfList) })
}

// isUnit reports whether the pattern of a unit has its place.
func isUnit(u api.UnitPattern) bool {
	return Pattern(u.Pattern, placesOfUnit)
}

// isDate reports whether the pattern of a date fits its skeleton.
func isDate(d api.DatePattern) bool {
	return Date(d.Skeleton, d.Pattern)
}

// checkUnits looks for a unit without a pattern for the class other.
func checkUnits(_ []api.Locale, l api.Locale) api.Errno {
	hasOther := func(u api.UnitPattern) bool {
		return slices.ContainsFunc(l.Units, func(v api.UnitPattern) bool { return v.Unit == u.Unit && v.Class == api.Other })
	}
	return errorIf(!all(l.Units, hasOther), api.ErrOther)
}

// checkRoot looks for what the root must have, because no locale has it to inherit from.
func checkRoot(before []api.Locale, l api.Locale) api.Errno {
	missing := l.Direction == "" || l.Symbols.Decimal == "" || len(l.Lists) == 0 || len(l.Dates) == 0 || len(l.Months) == 0 || len(l.Days) == 0
	return errorIf(len(before) == 0 && missing, api.ErrData)
}

// all reports whether something is so for all elements of a list.
func all[T any](l []T, is func(T) bool) bool {
	return !slices.ContainsFunc(l, func(x T) bool { return !is(x) })
}
