package table

import "calque/api"

// Sample returns the sample table.
func Sample() api.Table {
	t, _, _ := Parse(sample)
	return t
}

// sample is the text of the sample table.
const sample = `locale und {
	direction ltr;
	symbols "." "," "-" "%" 3 3;
	list and "{0}, {1}" "{0}, {1}" "{0}, {1}" "{0}, {1}";
	list or "{0} / {1}" "{0} / {1}" "{0} / {1}" "{0} / {1}";
	unit km other "{0} km";
	unit day other "{0} d";
	date yMd "y-MM-dd";
	date yMMMd "y MMM d";
	months "M01" "M02" "M03" "M04" "M05" "M06" "M07" "M08" "M09" "M10" "M11" "M12";
	days "D1" "D2" "D3" "D4" "D5" "D6" "D7";
}
locale en parent und {
	cardinal one "i = 1 and v = 0";
	ordinal one "n % 10 = 1 and n % 100 != 11";
	ordinal two "n % 10 = 2 and n % 100 != 12";
	ordinal few "n % 10 = 3 and n % 100 != 13";
	list and "{0} and {1}" "{0}, {1}" "{0}, {1}" "{0}, and {1}";
	list or "{0} or {1}" "{0}, {1}" "{0}, {1}" "{0}, or {1}";
	unit day one "{0} day";
	unit day other "{0} days";
	date yMMMd "MMM d, y";
	date yMMMEd "E, MMM d, y";
	months "January" "February" "March" "April" "May" "June" "July" "August" "September" "October" "November" "December";
	days "Monday" "Tuesday" "Wednesday" "Thursday" "Friday" "Saturday" "Sunday";
}
locale en-GB parent en {
	list and "{0} and {1}" "{0}, {1}" "{0}, {1}" "{0} and {1}";
	date yMd "dd/MM/y";
	date yMMMd "d MMM y";
}
locale pl parent und {
	cardinal one "i = 1 and v = 0";
	cardinal few "v = 0 and i % 10 = 2..4 and i % 100 != 12..14";
	cardinal many "v = 0 and i != 1 and i % 10 = 0,1,5..9 or v = 0 and i % 100 = 12..14";
	symbols "," " " "-" "%" 3 3;
	list and "{0} i {1}" "{0}, {1}" "{0}, {1}" "{0} i {1}";
	unit day one "{0} dzien";
	unit day few "{0} dni";
	unit day many "{0} dni";
	unit day other "{0} dnia";
	date yMd "d.MM.y";
}
locale ar parent und {
	direction rtl;
	cardinal zero "n = 0";
	cardinal one "n = 1";
	cardinal two "n = 2";
	cardinal few "n % 100 = 3..10";
	cardinal many "n % 100 = 11..99";
	symbols "." "" "-" "%" 0 0;
	list and "{0} \\ {1}" "{0} \\ {1}" "{0} \\ {1}" "{0} \\ {1}";
}
locale ja parent und {
	symbols "." "," "-" "%" 4 4;
	unit day other "{0}日";
	date yMMMd "y年M月d日";
}
alias iw he;
alias in id;
alias no nb;
near ar he 80;
near en pl 60;
near GB US 5;
`
