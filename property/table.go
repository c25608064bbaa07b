package property

import (
	"cmp"
	"slices"

	"obelus/api"
)

// keyCount is the number of keys.
const keyCount = 45

// row is what the table says of one key.
type row struct {
	key               int
	name              string
	group             int
	low, high, preset int
}

// find returns the row of a key.
func find(key int) (row, api.Errno) {
	rows := table()
	i, found := slices.BinarySearchFunc(rows[:], key, func(r row, key int) int { return cmp.Compare(r.key, key) })
	if !found {
		return row{}, api.ErrKey
	}
	return rows[i], api.OK
}

// table returns the rows of all keys, in increasing order.
func table() [keyCount]row {
	return [keyCount]row{
		{api.KeyCharStyle, "character-style", Characters, 0, api.MaxId, 0},
		{api.KeyBold, "bold", Characters, 0, 1, 0},
		{api.KeyItalic, "italic", Characters, 0, 1, 0},
		{api.KeyUnderline, "underline", Characters, 0, 3, 0},
		{api.KeySize, "size", Characters, 2, 1638, 22},
		{api.KeyColor, "color", Characters, 0, 0xFFFFFF, 0},
		{api.KeyFont, "font", Characters, 0, 63, 0},
		{api.KeyLanguage, "language", Characters, 0, 255, 0},
		{api.KeyRaise, "raise", Characters, -400, 400, 0},
		{api.KeyHidden, "hidden", Characters, 0, 1, 0},
		{api.KeyParaStyle, "paragraph-style", Paragraphs, 0, api.MaxId, 0},
		{api.KeyAlign, "align", Paragraphs, 0, 3, 0},
		{api.KeyLeft, "left", Paragraphs, -api.MaxTwips, api.MaxTwips, 0},
		{api.KeyRight, "right", Paragraphs, -api.MaxTwips, api.MaxTwips, 0},
		{api.KeyFirst, "first", Paragraphs, -api.MaxTwips, api.MaxTwips, 0},
		{api.KeyBefore, "before", Paragraphs, 0, api.MaxTwips, 0},
		{api.KeyAfter, "after", Paragraphs, 0, api.MaxTwips, 0},
		{api.KeyLeading, "leading", Paragraphs, 0, api.MaxTwips, 0},
		{api.KeyKeepNext, "keep-next", Paragraphs, 0, 1, 0},
		{api.KeyKeepLines, "keep-lines", Paragraphs, 0, 1, 0},
		{api.KeyWidow, "widow", Paragraphs, 0, 1, 1},
		{api.KeyPageBefore, "page-before", Paragraphs, 0, 1, 0},
		{api.KeyOutline, "outline", Paragraphs, 0, api.MaxLevels, 0},
		{api.KeyList, "list", Paragraphs, 0, api.MaxId, 0},
		{api.KeyLevel, "level", Paragraphs, 1, api.MaxLevels, 1},
		{api.KeyRestart, "restart", Paragraphs, 0, 32767, 0},
		{api.KeyTabStop, "tab-stop", Paragraphs, 1, api.MaxTwips, 720},
		{api.KeyHyphenate, "hyphenate", Paragraphs, 0, 1, 0},
		{api.KeyPageWidth, "page-width", Sections, 720, api.MaxTwips, 12240},
		{api.KeyPageHeight, "page-height", Sections, 720, api.MaxTwips, 15840},
		{api.KeyTop, "top", Sections, 0, api.MaxTwips, 1440},
		{api.KeyBottom, "bottom", Sections, 0, api.MaxTwips, 1440},
		{api.KeyInner, "inner", Sections, 0, api.MaxTwips, 1440},
		{api.KeyOuter, "outer", Sections, 0, api.MaxTwips, 1440},
		{api.KeyFirstPage, "first-page", Sections, 0, 32767, 0},
		{api.KeyPageFormat, "page-format", Sections, 1, 6, 1},
		{api.KeyHeader, "header", Rows, 0, 1, 0},
		{api.KeyCantSplit, "cant-split", Rows, 0, 1, 0},
		{api.KeyRowHeight, "row-height", Rows, 0, api.MaxTwips, 0},
		{api.KeyColSpan, "column-span", Cells, 1, api.MaxColumns, 1},
		{api.KeyVMerge, "vertical-merge", Cells, 0, 2, 0},
		{api.KeyCellWidth, "cell-width", Cells, 0, api.MaxTwips, 0},
		{api.KeyShade, "shade", Cells, 0, 0xFFFFFF, 0xFFFFFF},
		{api.KeyTableWidth, "table-width", Tables, 0, api.MaxTwips, 0},
		{api.KeyTableAlign, "table-align", Tables, 0, 2, 0},
	}
}

func isElement(element int) bool { return api.Text <= element && element <= Cell }

// hasGroup reports whether elements of a kind have the keys of a group.
func hasGroup(element, group int) bool {
	switch element {
	case api.Text, api.Break, api.Field, api.Note:
		return group == Characters
	case api.Para:
		return group == Paragraphs || group == Characters
	case api.Section:
		return group == Sections
	case api.Table:
		return group == Tables
	case Row:
		return group == Rows
	case Cell:
		return group == Cells
	}
	return false // anchors have no properties
}
