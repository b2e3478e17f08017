package table

import (
	"strconv"
	"strings"

	"prologue/api"
)

// Print a table: a text that Parse reads, if the table's numbers are such as a text may have.
func Print(t api.Table) string {
	var b strings.Builder
	printItem(&b, regs, t.Regs)
	printItem(&b, sp, t.SP)
	printItem(&b, link, t.Link)
	printItem(&b, temps, t.Temps[0], t.Temps[1])
	printItem(&b, args, t.Args...)
	printItem(&b, results, t.Results...)
	printItem(&b, saves, t.Saves...)
	printItem(&b, align, t.Align)
	printItem(&b, shadow, t.Shadow)
	printItem(&b, byRef, t.ByRef)
	if t.Pairs {
		printItem(&b, pairs)
	}
	return b.String()
}

func printItem(b *strings.Builder, k int, numbers ...int) {
	b.WriteString(items[k].name)
	for _, n := range numbers {
		b.WriteByte(' ')
		b.WriteString(numberText(k, n))
	}
	b.WriteString(";\n")
}

func numberText(k, n int) string {
	if items[k].dash && n == -1 {
		return "-"
	}
	return strconv.Itoa(n)
}
