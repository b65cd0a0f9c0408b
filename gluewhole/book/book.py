"""A book: a table whose cells come and go, and questions whether tellings are made."""

from gluewhole.base.made import plain_made_answer
from gluewhole.base.numbers import check_between, check_fit, check_least, is_grid
from gluewhole.errors import InvalidTable, Refused, TooMany, UnknownName
from gluewhole.space.spaces import MOST_CELLS, MOST_LENGTH, ascending_faces, check_cell, is_cell, ordered, plain_parts
from gluewhole.tables.tables import MAX_RANK, Table, are_just, built, ways
from gluewhole.tables.tellings import check_degree, check_telling, plain_rise_grid, plain_spots

MAX_NAMES = 20
MAX_CALLS = 200
MAX_LETTERS = 8
LETTERS = "abcdefghijklmnopqrstuvwxyz"


def is_change(value):
    """Whether the value is a pair of put or take and of a cell."""
    if not isinstance(value, tuple) or len(value) != 2 or not isinstance(value[0], str):
        return False
    return value[0] in ("put", "take") and is_cell(value[1])


def kept_word(word, degree, change):
    """The word, made or barred, if tellings of the degree stay so behind each such change, else None."""
    check_fit(isinstance(word, str) and word in ("made", "barred"), "the word is neither made nor barred")
    check_between(degree, 0, MOST_LENGTH - 1)
    check_fit(is_change(change), "this is no change by a cell")
    staying = "barred" if change[0] == "put" else "made"
    return word if len(change[1]) != degree + 1 or word == staying else None


def is_name(value):
    """Whether the value is a string of one to eight letters."""
    if not isinstance(value, str) or not 1 <= len(value) <= MAX_LETTERS:
        return False
    return all([letter in LETTERS for letter in value])


def check_name(value):
    """InvalidOperation unless the value is a name."""
    check_fit(is_name(value), "a name has one to eight letters")


def check_maps(cell, maps):
    """InvalidTable unless the value is a dict from just all faces of a cell to grids."""
    if not are_just(ascending_faces(cell), maps) or not all([is_grid(grid) for grid in maps.values()]):
        raise InvalidTable("these are no grids for just all faces of the cell")


def check_coming(table, cell, rank, maps):
    """Refused unless a cell that the table lacks can come behind its faces, with a rank and maps from these."""
    space, ranks, further = table.space, table.ranks, table.maps
    if cell in space:
        raise Refused(("there", cell))
    for face in ascending_faces(cell):
        if face not in space:
            raise Refused(("face", face))
    for face in ascending_faces(cell):
        if maps[face][0] != ranks[face] or len(maps[face][1]) != rank:
            raise Refused(("grid", face))
    for face in maps:
        further[(face, cell)] = maps[face]
    for some in plain_parts(cell):
        if len(some) == len(cell) - 2:
            one, other = ways(further, some, cell)
            if one != other:
                raise Refused(("ways", some))


def with_cell(table, cell, rank, maps):
    """The table with a further cell: TooMany(80), and TooMany(30) for its size."""
    if len(table.space) >= MOST_CELLS:
        raise TooMany(MOST_CELLS)
    ranks, further = table.ranks, table.maps
    ranks[cell] = rank
    for face in maps:
        further[(face, cell)] = maps[face]
    return built(ordered(table.space + (cell,)), ranks, further)


def check_going(table, cell):
    """Refused unless a cell of the table is the face of none."""
    if cell not in table.space:
        raise Refused(("lacks", cell))
    above = [pair[1] for pair in table.maps if pair[0] == cell]
    if above:
        raise Refused(("under", min(above)))


def without_cell(table, cell):
    """The table without a cell that is the face of none."""
    ranks, maps = table.ranks, table.maps
    space = tuple([other for other in table.space if other != cell])
    kept = {pair: maps[pair] for pair in maps if pair[1] != cell}
    return built(space, {other: ranks[other] for other in space}, kept)


class Book:
    """A table and questions by names. It changes."""

    def __init__(self):
        self._table = Table((), {}, {})
        self._questions = {}
        self._past = []

    @property
    def table(self):
        """The table."""
        return self._table

    @property
    def names(self):
        """The names of the questions, ascending."""
        return tuple(sorted(self._questions))

    @property
    def changes(self):
        """How many changes stand."""
        return len(self._past)

    def put(self, cell, rank, maps):
        """Puts a cell, with a rank and maps from its faces; tellings have 0 there."""
        check_cell(cell)
        check_between(rank, 0, MAX_RANK)
        check_maps(cell, maps)
        check_coming(self._table, cell, rank, maps)
        table = with_cell(self._table, cell, rank, maps)
        begin = plain_spots(table, len(cell) - 1)[cell][0]
        self._step(table, changed(self._questions, len(cell) - 1, (begin, begin), (0,) * rank))

    def take(self, cell):
        """Takes a cell; tellings keep their numbers at all others."""
        check_cell(cell)
        check_going(self._table, cell)
        spot = plain_spots(self._table, len(cell) - 1)[cell]
        table = without_cell(self._table, cell)
        self._step(table, changed(self._questions, len(cell) - 1, spot, ()))

    def ask(self, name, degree, telling):
        """Asks whether a telling is made."""
        check_name(name)
        check_degree(self._table, degree)
        check_telling(self._table, degree, telling)
        if name in self._questions:
            raise Refused(("there", name))
        if len(self._questions) >= MAX_NAMES:
            raise TooMany(MAX_NAMES)
        self._step(self._table, {**self._questions, name: (degree, telling)})

    def drop(self, name):
        """Takes a question away."""
        self._check_question(name)
        questions = {other: told for other, told in self._questions.items() if other != name}
        self._step(self._table, questions)

    def undo(self, *, calls=1):
        """Takes the last changes back."""
        check_least(calls, 1)
        many = len(self._past)
        if calls > many:
            raise Refused(("calls", many))
        self._table, self._questions = self._past[many - calls]
        self._past = self._past[:many - calls]

    def question(self, name):
        """The degree of a question and its telling as it is now."""
        self._check_question(name)
        return self._questions[name]

    def answer(self, name):
        """Whether the telling of a question is made: the claim that is true, with a paper."""
        self._check_question(name)
        degree, telling = self._questions[name]
        return plain_made_answer(plain_rise_grid(self._table, degree - 1), telling)

    def twin(self):
        """An equal book, with the changes that stand, that changes by itself."""
        book = Book()
        book._table = self._table
        book._questions = self._questions
        book._past = list(self._past)
        return book

    def _check_question(self, name):
        """InvalidOperation unless the value is a name; then UnknownName unless it is that of a question."""
        check_name(name)
        if name not in self._questions:
            raise UnknownName(name)

    def _step(self, table, questions):
        """Makes a change, TooMany(200) if so many stand. No dict of questions is changed: so twins can share them."""
        if len(self._past) >= MAX_CALLS:
            raise TooMany(MAX_CALLS)
        self._past.append((self._table, self._questions))
        self._table = table
        self._questions = questions

    def __contains__(self, value):
        return isinstance(value, str) and value in self._questions

    def __eq__(self, other):
        return isinstance(other, Book) and self._table == other._table and self._questions == other._questions

    def __len__(self):
        return len(self._table.space)

    def __str__(self):
        return f"book of {len(self._table.space)} cells, {len(self._questions)} questions"


def changed(questions, degree, spot, numbers):
    """The questions with numbers in the place of those at a spot in all tellings of a degree."""
    begin, end = spot
    found = {}
    for name, (asked, telling) in questions.items():
        found[name] = (asked, telling[:begin] + numbers + telling[end:] if asked == degree else telling)
    return found
