package layout

import (
	"strings"

	"hem/sheet"
)

// spaced gives the entries with those empty lines among them that are to be laid out.
func spaced(entries []sheet.Entry) []sheet.Entry {
	var kept []sheet.Entry
	gap := false
	for _, entry := range entries {
		if isEmpty(entry) {
			gap = true
			continue
		}
		// Only between two lines: so none comes at the beginning, and none at the end.
		if len(kept) > 0 && (gap || parted(kept[len(kept)-1], entry)) {
			kept = append(kept, &sheet.Bare{})
		}
		kept = append(kept, entry)
		gap = false
	}
	return kept
}

func isEmpty(entry sheet.Entry) bool {
	_, bare := entry.(*sheet.Bare)
	_, has := entry.TellRemark()
	return bare && !has
}

// parted says whether an empty line comes between two lines, even if the text has none there.
func parted(ahead, entry sheet.Entry) bool {
	_, header := entry.(*sheet.Header)
	_, bare := ahead.(*sheet.Bare) // a remark alone belongs to the header below it
	return header && !bare
}

// firstBlock gives the pairs that the entries begin with.
func firstBlock(entries []sheet.Entry) []*sheet.Pair {
	var block []*sheet.Pair
	for _, entry := range entries {
		pair, ok := entry.(*sheet.Pair)
		if !ok {
			break
		}
		block = append(block, pair)
	}
	return block
}

// remarkBehind gives what stands behind something in its line: nothing, or the entry's remark.
func remarkBehind(something string, entry sheet.Entry) string {
	remark, has := entry.TellRemark()
	if !has {
		return ""
	}
	if something == "" {
		return trimmed(remark)
	}
	return "  " + trimmed(remark)
}

func trimmed(remark string) string {
	remark = strings.TrimRight(remark, " \t")
	if remark == "" || remark[0] == ' ' || remark[0] == '#' {
		return "#" + remark
	}
	return "# " + remark
}
