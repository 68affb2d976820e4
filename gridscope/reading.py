"""Rows that are read: deeds, the first row of a page, and questions."""

MOST_FIGURES = 7


def read_number(word):
    """The number that a word is, or None where it is none so written."""
    figures = word[1:] if word.startswith("-") else word
    if not figures.isdigit() or len(figures) > MOST_FIGURES:
        return None
    number = int(word)
    # Of all ways to write a number only one is let: no nought ahead, no nought below nought.
    return number if str(number) == word else None


def read_any(word):
    """The word itself: whether it will do is for the deed to say."""
    return word


def read_wrap(word):
    """True or False for the two words of wrap, None for others."""
    if word == "wrap":
        return True
    return False if word == "nowrap" else None


READERS = {
    "number": read_number,
    "word": read_any,
    "text": read_any,
    "wrap": read_wrap,
}
# What stands behind the first word of a row. A text comes last and takes all that is left.
DEED_FORMS = {
    "text": "number number text",
    "look": "number number word word wrap",
    "merge": "number number number number",
    "part": "number number",
    "size": "word number number",
    "common": "word number",
    "hide": "word number number",
    "show": "word number number",
    "put": "word number number",
    "cut": "word number number",
    "fit": "word number",
    "hold": "number number",
    "screen": "number number",
    "scroll": "number number",
    "caret": "number number",
    "go": "word number",
}
QUESTION_FORMS = {
    "undo": "",
    "redo": "",
    "screen": "",
    "hit": "number number",
    "places": "number number",
    "caret": "",
    "scroll": "",
    "steps": "",
}


def read_part(kind, part):
    """A part of a row, or None where it isn't written as this kind is."""
    reader = READERS[kind]
    return reader(part)


def read_row(row, word, form):
    """The tuple of a row's first word and its parts by the form, or None where it isn't so written."""
    kinds = form.split()
    first, *parts = row.split(" ", len(kinds))
    if first != word or len(parts) != len(kinds):
        return None
    told = [read_part(kind, part) for kind, part in zip(kinds, parts)]
    return None if None in told else (word, *told)


def first_word(row):
    """What stands ahead of a row's first blank."""
    return row.partition(" ")[0]


def read_deed(row):
    """The deed that a row tells, or None; a row of `all` tells none by itself."""
    word = first_word(row)
    return read_row(row, word, DEED_FORMS[word]) if word in DEED_FORMS else None


def read_question(row):
    """The tuple of a question's word and numbers, or None."""
    word = first_word(row)
    return read_row(row, word, QUESTION_FORMS[word]) if word in QUESTION_FORMS else None


def read_sheet_row(row):
    """The four numbers of a page's first row, or None."""
    told = read_row(row, "sheet", "number number number number")
    return None if told is None else told[1:]


def read_all_row(row):
    """How many deeds come behind a row of `all`, or None where it is none."""
    told = read_row(row, "all", "number")
    return None if told is None or told[1] < 0 else told[1]
