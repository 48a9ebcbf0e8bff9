package temperament

import (
	"strings"

	"schisma/api"
	"schisma/prime"
	"schisma/row"
)

// Text returns the text of a temperament.
func Text(t api.Temperament) (string, api.Errno) {
	if e := Check(t); e != api.OK {
		return "", e
	}
	primes, _ := prime.Text(t.Primes)
	var b strings.Builder
	b.WriteString(primes)
	b.WriteString(", commas ")
	writeRows(&b, t.Commas, true)
	b.WriteString(", mapping ")
	writeRows(&b, t.Mapping, false)
	return b.String(), api.OK
}

// writeRows adds the texts of rows, as kets or as bras.
func writeRows(b *strings.Builder, m api.Matrix, ket bool) {
	if len(m) == 0 {
		b.WriteString("none")
	}
	for i, r := range m {
		if i > 0 {
			b.WriteString(" ")
		}
		text, _ := row.Text(r, ket)
		b.WriteString(text)
	}
}
