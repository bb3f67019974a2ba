package plan_test

import (
	"fmt"
	"strconv"

	formula "waywiser/score"
)

// score is the figures of the score of a term that df of so many texts of so many words have, and one of so many words so often.
func score(texts, total, df, tf, length int) string {
	return strconv.Itoa(formula.Score(formula.Stats{Texts: texts, Total: total}, df, tf, length))
}

// scored is a document of TestText, with its score for terms, each told by its df, tf and the text's length.
func scored(id int, terms ...int) string {
	sum := 0
	for ; len(terms) > 0; terms = terms[3:] {
		n, _ := strconv.Atoi(score(6, 19, terms[0], terms[1], terms[2]))
		sum += n
	}
	return fmt.Sprintf("{'_id':%d} score %d", id, sum)
}
