"""A shell: lines of words that change a book and ask it."""

from gluewhole.base.numbers import is_row
from gluewhole.book.book import Book, is_name
from gluewhole.errors import GlueError, InvalidNumber, ParseError, Refused, TooMany, UnknownName
from gluewhole.space.spaces import ascending_faces
from gluewhole.tables.groups import group, rows_of
from gluewhole.use.texts import table_text
from gluewhole.use.words import cell_of, cell_text, grid_of, number_of, row_of, row_text

FORMS = {
    "put": ("cell", "number"), "take": ("cell",), "ask": ("name", "number", "row"), "drop": ("name",), "undo": (),
    "answer": ("name",), "telling": ("name",), "group": ("number",), "table": (), "book": (),
}
CHANGES = {"put": "put", "take": "taken", "ask": "asked", "drop": "dropped", "undo": "undone"}


def word_of(form, word):
    """What a word tells in a form, None if it does not have it. A form that is a cell has just this cell's text."""
    if isinstance(form, tuple):
        return form if word == cell_text(form) else None
    if form == "cell":
        return cell_of(word)
    if form == "number":
        return number_of(word)
    if form == "grid":
        return grid_of(word)
    if form == "name":
        return word if is_name(word) else None
    row = row_of(word)
    return row if is_row(row) else None


def told_by_line(line):
    """The first word of a line, and what the others tell."""
    if not isinstance(line, str):
        raise ParseError(None)
    words = line.split(" ")
    if words[0] not in FORMS:
        raise ParseError(0)
    forms, told = list(FORMS[words[0]]), []
    for index, word in enumerate(words[1:]):
        value = word_of(forms[index], word) if index < len(forms) else None
        if value is None:
            raise ParseError(index + 1)
        if words[0] == "put" and index == 0:
            for face in ascending_faces(value):
                forms.extend([face, "grid"])
        told.append(value)
    if len(told) < len(forms):
        raise ParseError(len(words))
    return words[0], told


def change(book, word, told):
    """Does a change, and returns its answer."""
    if word == "put":
        book.put(told[0], told[1], {told[at]: told[at + 1] for at in range(2, len(told), 2)})
    elif word == "take":
        book.take(told[0])
    elif word == "ask":
        book.ask(told[0], told[1], told[2])
    elif word == "drop":
        book.drop(told[0])
    else:
        book.undo()
    return CHANGES[word]


def asked(book, word, told):
    """What a line that changes nothing asks."""
    if word == "answer":
        return book.answer(told[0])[0][0]
    if word == "telling":
        degree, telling = book.question(told[0])
        return f"{degree} {row_text(telling)}"
    if word == "group":
        rank, divisors = group(rows_of(book.table), told[0])
        return f"{rank} {row_text(divisors)}"
    return table_text(book.table) if word == "table" else str(book)


def member_text(member):
    """The text of a member of a reason: a word, a cell or a number."""
    return cell_text(member) if isinstance(member, tuple) else str(member)


class Shell:
    """A book that lines of words change and ask."""

    def __init__(self):
        self._book = Book()

    def book(self):
        """A twin of the book."""
        return self._book.twin()

    def run(self, line):
        """Does a line and returns its answer."""
        word, told = told_by_line(line)
        try:
            return change(self._book, word, told) if word in CHANGES else asked(self._book, word, told)
        except Refused as refusal:
            return " ".join(["refused"] + [member_text(member) for member in refusal.reason])
        except TooMany as excess:
            return f"full {excess.most}"
        except UnknownName:
            return "unknown"
        except (GlueError, InvalidNumber):
            return "wrong"
