// Package samples holds good locales, by which the layers from loc on are tested.
package samples

import "exergue/api"

// All are all of them.
func All() []api.Locale {
	return []api.Locale{Latin(), Indian(), Arabic(), Padded(), Bare()}
}

// Latin has rules of one category, currencies ahead of numbers, and compact patterns of two categories.
func Latin() api.Locale {
	return api.Locale{
		Tag:   "en-GB",
		S:     api.Sym{Zero: '0', Dec: '.', Group: ',', Minus: '-', Plus: '+', Percent: '%', Exp: 'E'},
		Pats:  [4]string{"#,##0.###", "#,##0%", "0.######E0", "¤#,##0.00;(¤#,##0.00)"},
		Rules: []api.Rule{{Cat: api.One, Text: "i = 1 and v = 0"}},
		Curs:  []api.Cur{{Code: "EUR", Sign: "€", Digits: 2}, {Code: "JPY", Sign: "¥", Digits: 0}, {Code: "TND", Sign: "TND", Digits: 3}, {Code: "USD", Sign: "$", Digits: 2}},
		Comps: []api.Comp{
			{Mag: 4, Cat: api.Other, Pat: "0 thousands"}, {Mag: 4, Cat: api.One, Pat: "0 thousand"},
			{Mag: 5, Cat: api.Other, Pat: "00 thousands"}, {Mag: 6, Cat: api.Other, Pat: "000 thousands"},
			{Mag: 7, Cat: api.Other, Pat: "0 millions"}, {Mag: 7, Cat: api.One, Pat: "0 million"},
			{Mag: 8, Cat: api.Other, Pat: "00 millions"},
		},
	}
}

// Indian has other digits, groups of two lengths, currencies behind numbers, and signs that are no bytes.
func Indian() api.Locale {
	return api.Locale{
		Tag:   "hi",
		S:     api.Sym{Zero: 0x966, Dec: ',', Group: 0xA0, Minus: 0x2212, Plus: '+', Percent: '%', Exp: 0xD7},
		Pats:  [4]string{"#,##,##0.0##", "#,##,##0.##%;-%#,##,##0.##", "0.0##E+00", "#,##,##0.00 ¤"},
		Rules: []api.Rule{{Cat: api.One, Text: "i = 0 or n = 1"}},
		Curs:  []api.Cur{{Code: "INR", Sign: "₹", Digits: 2}, {Code: "XXX", Sign: "(<&>)", Digits: 4}},
		Comps: []api.Comp{{Mag: 4, Cat: api.Other, Pat: "0 K"}, {Mag: 5, Cat: api.Other, Pat: "00 K"}, {Mag: 6, Cat: api.Other, Pat: "0 L"}, {Mag: 8, Cat: api.Other, Pat: "<0>"}},
	}
}

// Arabic has rules of all categories, and runes that turn the way of writing.
func Arabic() api.Locale {
	return api.Locale{
		Tag:  "ar",
		S:    api.Sym{Zero: 0x660, Dec: 0x66B, Group: 0x66C, Minus: '-', Plus: '+', Percent: 0x66A, Exp: 0x623},
		Pats: [4]string{"#,##0.###;\u200F-#,##0.###", "\u2067#,##0\u2069%", "0.###E0", "\u2068¤\u2069 #,##0.00"},
		Rules: []api.Rule{
			{Cat: api.Zero, Text: "n = 0"}, {Cat: api.One, Text: "n = 1"}, {Cat: api.Two, Text: "n = 2"},
			{Cat: api.Few, Text: "n % 100 = 3..10"}, {Cat: api.Many, Text: "n % 100 = 11..99"},
		},
		Curs: []api.Cur{{Code: "EGP", Sign: "ج.م.\u200F", Digits: 2}, {Code: "USD", Sign: "$", Digits: 2}},
		Comps: []api.Comp{
			{Mag: 4, Cat: api.Other, Pat: "0 o"}, {Mag: 4, Cat: api.Zero, Pat: "0 z"}, {Mag: 4, Cat: api.One, Pat: "0 n"}, {Mag: 4, Cat: api.Two, Pat: "0 t"},
			{Mag: 4, Cat: api.Few, Pat: "0 f"}, {Mag: 4, Cat: api.Many, Pat: "0 m"}, {Mag: 10, Cat: api.Other, Pat: "0000\u200E x"},
		},
	}
}

// Padded has patterns that are padded, in each place, and such that tell figures.
func Padded() api.Locale {
	return api.Locale{
		Tag:   "x-Pad-1",
		S:     api.Sym{Zero: '0', Dec: '.', Group: '\'', Minus: '~', Plus: '+', Percent: '%', Exp: 'e'},
		Pats:  [4]string{"*_@@###;-@@###", "<*x@@#%", "0.00#E+00*_ abc", "[¤] ####,##0.0 '%%'*!"},
		Curs:  []api.Cur{{Code: "AAA", Sign: "a"}, {Code: "AAB", Sign: "a&b", Digits: 4}, {Code: "ZZZ", Sign: "a b c d f g h i j k", Digits: 1}},
		Comps: []api.Comp{{Mag: 2, Cat: api.Other, Pat: "0t"}, {Mag: 3, Cat: api.Other, Pat: "h00"}, {Mag: 30, Cat: api.Other, Pat: "0^"}},
	}
}

// Bare has no more than it must have.
func Bare() api.Locale {
	return api.Locale{
		Tag:  "z",
		S:    api.Sym{Zero: 0x1D7CE, Dec: 'd', Group: 'g', Minus: 'm', Plus: 'p', Percent: 'c', Exp: 'x'},
		Pats: [4]string{"0", "0%", "0E0", "0¤"},
	}
}
