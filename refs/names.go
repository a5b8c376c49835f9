package refs

import "strings"

// names are all names without their ; each between blanks: More looks for what begins one.
const names = " amp AMP lt LT gt quot nbsp copy reg not para times divide eacute ETH szlig" +
	" apos notin copysr parallel timesb ltimes gtdot hellip ndash mdash lsquo rsquo ldquo rdquo euro trade" +
	" larr rarr Tab NewLine colon sol quest lpar zwj NotEqualTilde ThickSpace nvlt "

// nameBegins tells whether a name with its ; begins so, and goes on.
func nameBegins(s string) bool {
	for i := 0; i < len(s); i++ {
		if !letter(s[i]) {
			return false
		}
	}
	return strings.Contains(names, " "+s)
}

// named are the characters of a whole name; empty: it is none.
func named(s string) string {
	name, ended := strings.CutSuffix(s, ";")
	if c := loose(name); c != "" || !ended {
		return c
	}
	return strict(name)
}

// loose are the names that may stand without a ; too.
func loose(name string) string {
	switch name {
	case "amp", "AMP":
		return "&"
	case "lt", "LT":
		return "<"
	case "gt":
		return ">"
	case "quot":
		return "\""
	case "nbsp":
		return "\u00A0"
	case "copy":
		return "\u00A9"
	case "reg":
		return "\u00AE"
	case "not":
		return "\u00AC"
	case "para":
		return "\u00B6"
	case "times":
		return "\u00D7"
	case "divide":
		return "\u00F7"
	case "eacute":
		return "\u00E9"
	case "ETH":
		return "\u00D0"
	case "szlig":
		return "\u00DF"
	}
	return ""
}

// strict are the names that stand with a ; alone.
func strict(name string) string {
	switch name {
	case "apos":
		return "'"
	case "notin":
		return "\u2209"
	case "copysr":
		return "\u2117"
	case "parallel":
		return "\u2225"
	case "timesb":
		return "\u22A0"
	case "ltimes":
		return "\u22C9"
	case "gtdot":
		return "\u22D7"
	case "euro":
		return "\u20AC"
	case "trade":
		return "\u2122"
	case "larr":
		return "\u2190"
	case "rarr":
		return "\u2192"
	case "NotEqualTilde":
		return "\u2242\u0338"
	case "ThickSpace":
		return "\u205F\u200A"
	case "nvlt":
		return "<\u20D2"
	}
	return mark(name)
}

// mark are the names of marks of writing that stand with a ; alone.
func mark(name string) string {
	switch name {
	case "hellip":
		return "\u2026"
	case "ndash":
		return "\u2013"
	case "mdash":
		return "\u2014"
	case "lsquo":
		return "\u2018"
	case "rsquo":
		return "\u2019"
	case "ldquo":
		return "\u201C"
	case "rdquo":
		return "\u201D"
	case "Tab":
		return "\t"
	case "NewLine":
		return "\n"
	case "colon":
		return ":"
	case "sol":
		return "/"
	case "quest":
		return "?"
	case "lpar":
		return "("
	case "zwj":
		return "\u200D"
	}
	return ""
}
