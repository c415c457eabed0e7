"""The lines of [5] and [6] as a grammar, and which beginnings some right line has: written apart from the program.

A line is cut into tokens; each token is the set of all kinds that it may be, or, at the very end of a beginning, may
yet become. A chart by Earley's way tells whether some row of tokens of the grammar begins so.
"""

from functools import lru_cache

WORDS = ("module", "input", "reg", "memory", "wire", "output", "use", "next", "write", "end", "by", "when", "if",
         "then", "else")
LETTERS = "abcdefghijklmnopqrstuvwxyz"
DIGITS = "0123456789"
TWO = ("==", "!=", "<=", "<<", ">>")
ONE = ":=[](){},.|^&+-*~<"

RULES = {
    "between": ["'module NAME"],
    "within": [
        "'input NAME ': WHOLE", "'reg NAME ': WHOLE '= WHOLE", "'memory NAME ': WHOLE 'by WHOLE",
        "'wire NAME ': WHOLE '= expr", "'output NAME ': WHOLE '= expr", "'next NAME '= expr",
        "'write NAME '[ expr '] '= expr 'when expr", "'use NAME ': NAME '( ')", "'use NAME ': NAME '( ports ')", "'end",
    ],
    "ports": ["NAME '= expr", "ports ', NAME '= expr"],
    "expr": ["'if expr 'then expr 'else expr", "or"],
    "or": ["xor", "or '| xor"],
    "xor": ["and", "xor '^ and"],
    "and": ["compared", "and '& compared"],
    "compared": ["sum", "sum '== sum", "sum '!= sum", "sum '< sum", "sum '<= sum"],
    "sum": ["product", "sum '+ product", "sum '- product"],
    "product": ["shifted", "product '* shifted"],
    "shifted": ["signed", "shifted '<< WHOLE", "shifted '>> WHOLE"],
    "signed": ["'~ signed", "'- signed", "part"],
    "part": ["NUMBER", "NAME", "NAME '. NAME", "NAME '[ expr ']", "'( expr ')", "'{ expr ', several '}",
             "part '[ WHOLE ']", "part '[ WHOLE ': WHOLE ']"],
    "several": ["expr", "several ', expr"],
}
GRAMMAR = {head: [tuple(row.split(" ")) for row in rows] for head, rows in RULES.items()}


def is_whole(digits):
    return digits == "0" or (1 <= len(digits) <= 20 and digits[0] != "0")


def run_end(text, at, signs):
    """The place behind the run of these signs that begins at a place."""
    while at < len(text) and text[at] in signs:
        at += 1
    return at


def tokens_of(text, cut):
    """The tokens of a line, or of a beginning of one if cut; None for what no right line has."""
    tokens = []
    at = 0
    while at < len(text):
        if text[at] == " ":
            at += 1
            continue
        if text[at] in LETTERS:
            end = run_end(text, at, LETTERS + DIGITS + "_")
            kinds = word_kinds(text[at:end], cut and end == len(text))
        elif text[at] in DIGITS:
            end, kinds = number_kinds(text, at, cut)
        else:
            end, kinds = sign_kinds(text, at, cut)
        if not kinds:
            return None
        tokens.append(frozenset(kinds))
        at = end
    return tuple(tokens)


def word_kinds(word, open_end):
    if len(word) > 12:
        return []
    if open_end:
        return ["NAME"] + ["'" + other for other in WORDS if other.startswith(word)]
    return ["'" + word] if word in WORDS else ["NAME"]


def number_kinds(text, at, cut):
    end = run_end(text, at, DIGITS)
    if not is_whole(text[at:end]):
        return end, []
    if end == len(text):
        return end, ["WHOLE", "NUMBER"] if cut else ["WHOLE"]
    kinds = ["WHOLE"]
    if text[end] == "#":
        start = end + 1
        end = run_end(text, start, DIGITS)
        kinds = ["NUMBER"]
        if not is_whole(text[start:end]) and not (cut and start == len(text)):
            return end, []
    if end < len(text) and text[end] in LETTERS + "_":
        return end, []
    return end, kinds


def sign_kinds(text, at, cut):
    if text[at:at + 2] in TWO:
        return at + 2, ["'" + text[at:at + 2]]
    kinds = ["'" + text[at]] if text[at] in ONE else []
    if cut and at + 1 == len(text):
        kinds = kinds + ["'" + two for two in TWO if two[0] == text[at]]
    return at + 1, kinds


def filled(items, places, at):
    """A set of a chart, from the items (head, row, place in it, where it began) that came there by tokens."""
    known = dict.fromkeys(items)
    waiting = list(known)
    for head, row, done, start in waiting:
        if done < len(row):
            if row[done] in GRAMMAR:
                add = [(row[done], other, 0, at) for other in GRAMMAR[row[done]]]
            else:
                add = []
        else:
            before = places[start] if start < at else list(known)
            add = [(h, r, d + 1, s) for h, r, d, s in before if d < len(r) and r[d] == head]
        for entry in add:
            if entry not in known:
                known[entry] = None
                waiting.append(entry)
    return tuple(known)


@lru_cache(maxsize=None)
def chart(start, tokens):
    """The sets of a chart for a row of tokens."""
    if not tokens:
        return (filled([("line", (start,), 0, 0)], (), 0),)
    ahead = chart(start, tokens[:-1])
    items = [(h, r, d + 1, s) for h, r, d, s in ahead[-1] if d < len(r) and r[d] in tokens[-1]]
    return ahead + (filled(items, ahead, len(tokens)),)


def may_begin(start, text):
    """Whether some right line begins so."""
    tokens = tokens_of(text, True)
    return tokens is not None and chart(start, tokens)[-1] != ()


def is_right(start, text):
    """Whether a line is right: start is "between" or "within" modules."""
    tokens = tokens_of(text, False)
    return tokens == () or (tokens is not None and ("line", (start,), 1, 0) in chart(start, tokens)[-1])


def wrong_column(start, text):
    """The column of a wrong line by its definition; None for a right one."""
    if is_right(start, text):
        return None
    low, high = 0, len(text)
    while low < high:
        middle = (low + high + 1) // 2
        if may_begin(start, text[:middle]):
            low = middle
        else:
            high = middle - 1
    return low + 1
