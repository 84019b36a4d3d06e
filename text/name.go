package text

import "dataenclave/api"

// Name reports whether a string is a name.
func Name(s string) bool {
	if len(s) == 0 || len(s) > api.MaxName || !letter(s[0]) || reserved(s) {
		return false
	}
	for i := range len(s) {
		if !letter(s[i]) && s[i] != '_' && (s[i] < '0' || s[i] > '9') {
			return false
		}
	}
	return true
}

func letter(b byte) bool { return 'a' <= b && b <= 'z' }

// reserved reports whether a word has a meaning in the texts of conditions and questions.
func reserved(s string) bool {
	switch s {
	case "all", "and", "event", "from", "missing", "not", "on", "or", "to", "under", "where":
		return true
	}
	return false
}
