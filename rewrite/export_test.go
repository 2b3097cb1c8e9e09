package rewrite

import "quilter/api"

// InPieces answers b behind rules of bodies, without laying what is short together meanwhile.
func InPieces(b []byte, l ...api.Rule) []byte {
	t := textOf(b)
	for _, r := range l {
		changes()[r.Kind](t, r)
	}
	return t.bytes()
}
