"""The forms that a row for a desk may have."""

LONGEST_NUMBER = 9

# What may stand behind the first word: t is a text, n is a number.
FORMS = {
    "make": ("t", "tn"),
    "sits": ("tt",),
    "refuses": ("tt",),
    "retract": ("n",),
    "ask": ("tt",),
    "next": ("",),
    "bring": ("tn",),
    "scrap": ("tn",),
    "lend": ("ttn",),
    "back": ("n", "nn"),
    "limit": ("n",),
    "count": ("t",),
    "fewest": ("",),
    "tall": ("",),
    "undo": ("",),
    "redo": ("",),
}
FEWEST_SEEN = 2


def row_values(row):
    """The first word and the values of the other words, numbers as integers; None if the row has no form."""
    words = row.split(" ")
    for form in _forms_of(words[0], len(words) - 1):
        if len(form) == len(words) - 1 and all([_fits(kind, word) for kind, word in zip(form, words[1:])]):
            values = [int(word) if kind == "n" else word for kind, word in zip(form, words[1:])]
            return [words[0], *values]
    return None


def _forms_of(first, many):
    """The forms of what may stand behind the first word, where so many words stand."""
    if first == "saw":
        # Any number of names has a form, from two names on.
        return ("t" * max(many, FEWEST_SEEN),)
    return FORMS.get(first, ())


def _fits(kind, word):
    """True if the word is of this kind."""
    return _is_number(word) if kind == "n" else len(word) > 0


def _is_number(word):
    """True if the word is 1 to 9 digits without a leading zero."""
    return (
        len(word) <= LONGEST_NUMBER
        and word.isascii()
        and word.isdigit()
        and (word == "0" or not word.startswith("0"))
    )
