"""Words that are none, for texts, and the checks that all readers of texts share."""

from turnedvalleys.errors import BadText

DIGITS_15 = "9" * 15
# A digit of another script, a digit above the line, a full-width digit, and a sign that only looks like a minus.
STRANGE_DIGITS = ("\u0663", "\u00b2", "\uff15", "\u22121")
NO_NUMBERS = ("", "-0", "+1", "01", "00", "-01", "--1", "-", "+", "1-", "1.0", "1e3", "0x1", "1_0", "x", "one", "1,2",
              ",", ".", "1,", ",1", "all", "none", "\t", "1\t", "\n1", "1\n", "1\r", "\u00a01", "1" + "0" * 15,
              "-1" + "0" * 15, DIGITS_15 + "9", "9" * 5000, "-" + "9" * 5000) + STRANGE_DIGITS
NO_RULES = ("", "All", "None", "ALL", "any", ",", "2,", ",2", "2,,3", "2, ", ",2,3", "2,3,", "0", "1", "41", "42", "-2",
            "0,2", "1,2", "2,41", "40,41", "2,2", "3,2", "2,5,4", "2,5,5", "02", "2,03", "+2", "2,+3", "2.3", "2;3",
            "all,2", "2,all", "none,2", "()", "(2,3)", "2,100", "2,1000000000000000", "9" * 20, "2," + "9" * 5000,
            "\u0663", "2,\u0663", ".", "x")
NO_ENDS = ("", "4", "5", "-1", "00", "01", "03", "10", "12", "33", "+1", "-0", "x", "all", "0.", "\u0663", "\u00b2",
           "1" * 16, "9" * 5000)


def refuses_words(test, call, words, i, bad):
    """With one of its words put in the place of the word i of a good text, the call must raise BadText(i)."""
    for word in bad:
        changed = words[:i] + [word] + words[i + 1:]
        # Whatever stands behind, the first bad word is the one that is told.
        for behind in ([], [""], ["x"]):
            test.refused(BadText, i, call, " ".join(changed + behind))
        test.refused(BadText, i, call, " ".join(changed[:i + 1]))


def refuses_spaces(test, call, text):
    """With a space too many before or behind any word of a good text, the call must raise BadText."""
    words = text.split(" ")
    for i in range(len(words) + 1):
        test.refused(BadText, i, call, " ".join(words[:i] + [""] + words[i:]))


def refuses_missing(test, call, text, least):
    """With fewer words than the least of the first ones of a good text, the call must raise BadText."""
    words = text.split(" ")
    for i in range(1, least):
        test.refused(BadText, i, call, " ".join(words[:i]))
