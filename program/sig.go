package program

import "prologue/api"

// Sig of a function: what a caller must know of it.
func Sig(f api.Func) api.Sig {
	s := api.Sig{Results: f.Results}
	for _, p := range f.Params {
		s.Params = append(s.Params, p.Words)
	}
	return s
}

// Callee: the signature of what an instruction calls, if it calls anything.
func Callee(p api.Program, i api.Ins) (api.Sig, bool) {
	switch i.Op {
	case api.Call, api.Tail:
		return Sig(p.Funcs[i.F]), true
	case api.Ext:
		return p.Externs[i.F], true
	}
	return api.Sig{}, false
}

// SigFits tells whether a signature is within its bounds.
func SigFits(s api.Sig) bool {
	if len(s.Params) > api.MaxParams || !isWithin(s.Results, 0, api.MaxResults) {
		return false
	}
	for _, words := range s.Params {
		if !isWithin(words, 0, api.MaxWords) {
			return false
		}
	}
	return true
}

// WordCount: how many words all arguments have, one behind the other.
func WordCount(s api.Sig) int {
	n := 0
	for _, words := range s.Params {
		n += max(words, 1)
	}
	return n
}

func isWithin(n, least, most int) bool { return n >= least && n <= most }
