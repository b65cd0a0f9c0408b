"""Books, and what stays behind their changes [20.1], [20.2]."""

import itertools
import random
import unittest

from gluewhole.book.book import Book, kept_word
from gluewhole.errors import (
    InvalidCell, InvalidNumber, InvalidOperation, InvalidTable, InvalidTelling, Refused, TooMany, UnknownName)
from gluewhole.judge.judge import takes
from gluewhole.tables.tables import Table, constant
from gluewhole.tables.tellings import rise_grid, spots
from tests.helper import (
    FILLED, LESS, ODD, ONE, ROUND, TWIST, TWO, WRONG_CELLS, WRONG_INTEGERS, closed, holds, nought, random_tables,
    refusal, some_row, told_faces, unit)

WRONG_NAMES = (None, True, 0, "", "abcdefghi", "A", "aB", "a b", "a1", " a", "a\n", "-", ("a",), ["a"], {}, "a" * 9)
SOLID = closed([(0, 1, 2, 3)])


def maps_of(table, cell):
    """The dict from the faces of a cell to the grids of the table."""
    return {face: table.maps[(face, cell)] for _, face in told_faces(cell)}


def built(table, cells=None):
    """A book built from nothing, with the cells of a table."""
    book = Book()
    for cell in table.space if cells is None else cells:
        book.put(cell, table.ranks[cell], maps_of(table, cell))
    return book


def refused(case, function, arguments, reason):
    """The call is refused with this reason."""
    case.assertEqual(refusal(case, function, arguments, Refused).reason, reason)


def little():
    """The book of the document's example."""
    book = Book()
    book.put((0,), 1, {})
    book.put((1,), 1, {})
    book.put((0, 1), 1, {(0,): ONE, (1,): TWO})
    return book


class Plain:
    """What a book should be: cells with ranks and maps, questions by cells, and what stood ahead of each change."""

    def __init__(self):
        self.cells, self.maps, self.questions, self.past = {}, {}, {}, []

    def step(self):
        """Keeps what stands."""
        self.past.append((dict(self.cells), dict(self.maps), {k: (d, dict(t)) for k, (d, t) in self.questions.items()}))

    def undo(self, many):
        """Takes changes back."""
        for _ in range(many):
            self.cells, self.maps, self.questions = self.past.pop()

    def put(self, cell, rank, maps):
        """Puts a cell."""
        self.step()
        self.cells[cell] = rank
        self.maps[cell] = dict(maps)
        for degree, told in self.questions.values():
            if degree == len(cell) - 1:
                told[cell] = (0,) * rank

    def take(self, cell):
        """Takes a cell."""
        self.step()
        del self.cells[cell], self.maps[cell]
        for _, told in self.questions.values():
            told.pop(cell, None)

    def space(self):
        """The space."""
        return tuple(sorted(self.cells, key=lambda cell: (len(cell), cell)))

    def table(self):
        """The table."""
        space = self.space()
        return Table(space, self.cells, {(face, cell): self.maps[cell][face]
                                         for cell in space for _, face in told_faces(cell)})

    def telling(self, name):
        """The degree and the telling of a question."""
        degree, told = self.questions[name]
        return degree, tuple([number for cell in self.space() if len(cell) == degree + 1 for number in told[cell]])

    def ask(self, name, degree, telling):
        """Asks a question."""
        self.step()
        ends = spots(self.table(), degree)
        self.questions[name] = (degree, {cell: telling[begin:end] for cell, (begin, end) in ends.items()})


class Examples(unittest.TestCase):
    def test_book(self):
        book = Book()
        self.assertEqual(
            [book.put((0,), 1, {}), book.put((1,), 1, {}), book.put((0, 1), 1, {(0,): ONE, (1,): TWO}),
             book.ask("one", 1, (1,)), book.answer("one")[0], str(book)],
            [None, None, None, None, ("made", (2, ((-1, 2),)), (1,)), "book of 3 cells, 1 questions"])
        self.assertEqual(
            [kept_word("made", 1, ("put", (0, 1))), kept_word("barred", 1, ("put", (0, 1)))], [None, "barred"])
        refused(self, book.take, ((0,),), ("under", (0, 1)))


class Words(unittest.TestCase):
    def test_kept_words(self):
        for word, degree, action, cell in itertools.product(
                ("made", "barred"), range(4), ("put", "take"), ((7,), (0, 7), (0, 1, 7), (0, 1, 2, 7))):
            stays = len(cell) - 1 != degree or word == ("barred" if action == "put" else "made")
            self.assertEqual(kept_word(word, degree, (action, cell)), word if stays else None)

    def test_wrong_ones(self):
        words = (None, True, 0, "", "Made", "not made", ("made",), ["made"], {}, TWIST)
        for word in words:
            refusal(self, kept_word, (word, None, None), InvalidOperation)
        for degree in WRONG_INTEGERS + (-1, 4):
            self.assertIs(refusal(self, kept_word, ("made", degree, None), InvalidNumber).given, degree)
        for change in (
                None, True, 0, "", "put", (), ("put",), ["put", (0,)], ("put", (0,), 1), ("puts", (0,)), (("put",),
                    (0,)),
                ((0,), "put"), {}, TWIST, (None, (0,))) + tuple([(word, cell) for word in ("put",
                 "take") for cell in WRONG_CELLS]):
            refusal(self, kept_word, ("barred", 2, change), InvalidOperation)

    def test_what_stays(self):
        # Behind random changes answers stay as the words tell, and the others come both ways.
        source, moved = random.Random(1), {}
        for table in [TWIST, constant(FILLED, 1), constant(SOLID, 1)] + random_tables(200, 30, 5):
            for cell in table.space:
                above = [pair for pair in table.maps if pair[0] == cell]
                if above:
                    continue
                book = built(table)
                degrees = range(max([len(some) for some in table.space]))
                for degree in degrees:
                    for at in range(3):
                        low = rise_grid(table, degree - 1) if degree else nought(len(rise_grid(table, 0)[1]), 0)
                        row = some_row(sum([r for c, r in table.ranks.items() if len(c) == degree + 1]), source, 2)
                        if at and degree:
                            steps = some_row(low[0], source, 1)
                            row = tuple([sum([a * b for a, b in zip(line, steps)]) for line in low[1]])
                        book.ask(f"q{'abcd'[degree]}{'xyz'[at]}", degree, row)
                ahead = {name: book.answer(name)[0][0] for name in book.names}
                book.take(cell)
                behind = {name: book.answer(name)[0][0] for name in book.names}
                book.put(cell, table.ranks[cell], maps_of(table, cell))
                again = {name: book.answer(name)[0][0] for name in book.names}
                for name in book.names:
                    degree = book.question(name)[0]
                    for action, one, other in (("take", ahead, behind), ("put", behind, again)):
                        kept = kept_word(one[name], degree, (action, cell))
                        self.assertIn(kept, (None, other[name]))
                        key = (action, one[name], other[name], kept is None)
                        moved[key] = moved.get(key, 0) + 1
        for key in (("take", "barred", "made", True), ("take", "barred", "barred", True), ("put", "made", "barred",
                True),
                    ("put", "made", "made", True), ("take", "made", "made", False), ("put", "barred", "barred", False)):
            self.assertGreater(moved.get(key, 0), 3, key)


class Puts(unittest.TestCase):
    def test_tables(self):
        source = random.Random(2)
        for table in [TWIST, constant((), 1), constant(SOLID, 2), constant(ROUND, 0)] + random_tables(201, 15, 5):
            small = all([abs(n) < 10 ** 12 for grid in table.maps.values() for row in grid[1] for n in row])
            if not small:
                continue
            book = built(table)
            self.assertEqual((book.table, len(book), book.changes), (table, len(table.space), len(table.space)))
            # Cells come in any sequence behind all of their faces.
            cells, rest = [], list(table.space)
            while rest:
                free = [cell for cell in rest if all([face not in rest for _, face in told_faces(cell)])]
                cells.append(source.choice(free))
                rest.remove(cells[-1])
            other = built(table, cells)
            self.assertEqual(other, book)
            self.assertEqual(list(other.table.space), list(table.space))
            # And they go behind all that they are a face of.
            for cell in reversed(cells):
                other.take(cell)
            self.assertEqual(other, Book())
            self.assertEqual(len(other), 0)

    def test_refused_ones(self):
        book = little()
        refused(self, book.put, ((0,), 1, {}), ("there", (0,)))
        refused(self, book.put, ((0, 1), 1, {(0,): ONE, (1,): TWO}), ("there", (0, 1)))
        refused(self, book.put, ((0, 2), 1, {(0,): ONE, (2,): ONE}), ("face", (2,)))
        refused(self, book.put, ((3, 4), 1, {(4,): ONE, (3,): ONE}), ("face", (3,)))
        refused(self, book.put, ((0, 1, 2), 1, {(0, 1): ONE, (0, 2): ONE, (1, 2): ONE}), ("face", (0, 2)))
        book.put((2,), 2, {})
        row = (2, ((0, 1),))
        for maps, face in (
                ({(1,): ONE, (2,): ONE}, (2,)), ({(1,): row, (2,): ONE}, (1,)), ({(1,): (1, ()), (2,): row}, (1,)),
                ({(1,): ONE, (2,): (2, ((0, 1), (1, 0)))}, (2,))):
            refused(self, book.put, ((1, 2), 1, maps), ("grid", face))
        book.put((1, 2), 1, {(1,): ONE, (2,): row})
        book.put((0, 2), 1, {(0,): ONE, (2,): row})
        # From 0 both ways lead alike, from 1 and 2 they do not.
        refused(
            self, book.put, ((0, 1, 2), 1, {(0, 1): ONE, (0, 2): ONE, (1, 2): ONE}), ("ways", (1,)))
        refused(
            self, book.put, ((0, 1, 2), 1, {(0, 1): ONE, (0, 2): TWO, (1, 2): ONE}), ("ways", (0,)))
        refused(
            self, book.put, ((0, 1, 2), 1, {(0, 1): ONE, (0, 2): ONE, (1, 2): (1, ((3,),))}), ("ways", (1,)))
        refused(
            self, book.put, ((0, 1, 2), 1, {(0, 1): ONE, (0, 2): ONE, (1, 2): LESS}), ("ways", (1,)))
        refused(self, book.put, ((0, 1, 2), 2, {(0, 1): ONE, (0, 2): ONE, (1, 2): ONE}), ("grid", (0, 1)))
        self.assertEqual((len(book), book.changes), (6, 6))
        book.put((0, 1, 2), 1, {(0, 1): nought(1, 1), (0, 2): nought(1, 1), (1, 2): nought(1, 1)})
        refused(self, book.take, ((0, 1),), ("under", (0, 1, 2)))
        refused(self, book.take, ((0,),), ("under", (0, 1)))
        refused(self, book.take, ((2,),), ("under", (0, 2)))
        refused(self, book.take, ((9,),), ("lacks", (9,)))
        refused(self, book.take, ((0, 1, 2, 3),), ("lacks", (0, 1, 2, 3)))
        # The parts of two points less of a tetrahedron are stretches.
        solid = built(constant(SOLID[:-1], 1))
        bad = {face: ONE for _, face in told_faces((0, 1, 2, 3))}
        refused(self, solid.put, ((0, 1, 2, 3), 1, {**bad, (1, 2, 3): TWO}), ("ways", (1, 2)))
        refused(self, solid.put, ((0, 1, 2, 3), 1, {**bad, (0, 1, 2): TWO}), ("ways", (0, 1)))
        solid.put((0, 1, 2, 3), 1, bad)
        self.assertEqual(solid.table, constant(SOLID, 1))

    def test_wrong_ones(self):
        book = little()
        for cell in WRONG_CELLS:
            refusal(self, book.put, (cell, None, None), InvalidCell)
            refusal(self, book.take, (cell,), InvalidCell)
        for rank in WRONG_INTEGERS + (-1, 5):
            self.assertIs(refusal(self, book.put, ((0,), rank, None), InvalidNumber).given, rank)
        for maps in (
                None, True, 0, "", (), [], {}, {(0,): ONE}, {(1,): ONE}, {(0,): ONE, (2,): ONE}, {(0,): ONE,
                    (1,): None},
                {(0,): ONE, (1,): ONE, (0, 1): ONE}, {(0,): ONE, (True,): ONE}, {(0,): ONE, (1,): (1, [(1,)])},
                {(0,): ONE, (1,): (1, ((10 ** 12,),))}, {(0,): ONE, (1,): (1, ((True,),))}, {(0,): ONE, (1,): 1}, TWIST,
                ((0,), (1,)), {0: ONE, 1: ONE}):
            refusal(self, book.put, ((0, 1), 1, maps), InvalidTable)
        for maps in (None, (), {(5,): ONE}, {(): ONE}, [], {0: 0}):
            refusal(self, book.put, ((5,), 1, maps), InvalidTable)
        self.assertEqual((book, book.changes), (little(), 3))

    def test_eighty_cells(self):
        book = Book()
        for at in range(80):
            book.put((at,), 0, {})
        self.assertEqual((str(book), book.changes), ("book of 80 cells, 0 questions", 80))
        self.assertEqual(refusal(self, book.put, ((80,), 0, {}), TooMany).most, 80)
        # The cells come ahead of the size, and all reasons ahead of both.
        self.assertEqual(refusal(self, book.put, ((80,), 4, {}), TooMany).most, 80)
        refused(self, book.put, ((79,), 0, {}), ("there", (79,)))
        refused(self, book.put, ((0, 80), 0, {(0,): (0, ()), (80,): (0, ())}), ("face", (80,)))
        book.take((79,))
        book.put((0, 1), 4, {(0,): (0, ((),) * 4), (1,): (0, ((),) * 4)})
        self.assertEqual(len(book), 80)

    def test_sizes(self):
        book = Book()
        for at in range(7):
            book.put((at,), 4, {})
        self.assertEqual(refusal(self, book.put, ((7,), 3, {}), TooMany).most, 30)
        book.put((7,), 2, {})
        self.assertEqual(refusal(self, book.put, ((8,), 1, {}), TooMany).most, 30)
        book.put((8,), 0, {})
        book.put((0, 8), 4, {(0,): unit(4), (8,): (0, ((),) * 4)})
        book.take((7,))
        book.put((9,), 2, {})
        self.assertEqual(str(book.table), "table on 10 cells, sizes 30 4")

    def test_two_hundred_changes(self):
        book = Book()
        book.put((0,), 1, {})
        book.ask("a", 0, (5,))
        for _ in range(99):
            book.put((1,), 1, {})
            book.take((1,))
        self.assertEqual(book.changes, 200)
        for function, arguments in (
                (book.put, ((1,), 1, {})), (book.take, ((0,),)), (book.ask, ("b", 0, (1,))), (book.drop, ("a",))):
            self.assertEqual(refusal(self, function, arguments, TooMany).most, 200)
        # All other errors come ahead.
        refused(self, book.put, ((0,), 1, {}), ("there", (0,)))
        refused(self, book.take, ((1,),), ("lacks", (1,)))
        refused(self, book.ask, ("a", 0, (1,)), ("there", "a"))
        self.assertEqual(refusal(self, book.drop, ("b",), UnknownName).wanted, "b")
        self.assertEqual((book.changes, book.question("a")), (200, (0, (5,))))
        book.undo()
        self.assertEqual((book.changes, book.question("a")), (199, (0, (5, 0))))
        book.drop("a")
        self.assertEqual(refusal(self, book.take, ((1,),), TooMany).most, 200)
        book.undo(calls=200)
        self.assertEqual((book, book.changes), (Book(), 0))


class Questions(unittest.TestCase):
    def test_names(self):
        book = little()
        for name in ("a", "z", "abcdefgh", "made"):
            self.assertIsNone(book.ask(name, 0, (1, 2)))
            self.assertIs(name in book, True)
        self.assertEqual(book.names, ("a", "abcdefgh", "made", "z"))
        for name in WRONG_NAMES:
            for function in (book.drop, book.question, book.answer):
                refusal(self, function, (name,), InvalidOperation)
            refusal(self, book.ask, (name, None, None), InvalidOperation)
            self.assertIs(name in book, False)
        for name in ("b", "aa", "abcdefg"):
            for function in (book.drop, book.question, book.answer):
                self.assertEqual(refusal(self, function, (name,), UnknownName).wanted, name)
        for value in ODD:
            self.assertIs(value in book, False)
        self.assertEqual(str(book), "book of 3 cells, 4 questions")

    def test_wrong_ones(self):
        book = little()
        for degree in WRONG_INTEGERS + (-1, 2):
            self.assertIs(refusal(self, book.ask, ("a", degree, None), InvalidNumber).given, degree)
        for telling in (None, True, 1, "1", [1, 2], {}, (), (1,), (1, 2, 3), (1, True), (1, 10 ** 12), ((1,), (2,)),
                TWIST):
            refusal(self, book.ask, ("a", 0, telling), InvalidTelling)
        book.ask("a", 0, (1, 2))
        refused(self, book.ask, ("a", 0, (1, 2)), ("there", "a"))
        refusal(self, book.ask, ("a", 0, (1,)), InvalidTelling)
        self.assertEqual(refusal(self, Book().ask, ("a", 1, ()), InvalidNumber).given, 1)
        Book().ask("a", 0, ())

    def test_twenty_names(self):
        book = little()
        for letter in "abcdefghijklmnopqrst":
            book.ask(letter, 1, (3,))
        self.assertEqual(len(book.names), 20)
        self.assertEqual(refusal(self, book.ask, ("u", 1, (3,)), TooMany).most, 20)
        refused(self, book.ask, ("a", 1, (3,)), ("there", "a"))
        book.drop("c")
        book.ask("u", 1, (4,))
        self.assertEqual(book.names, tuple("abdefghijklmnopqrstu"))
        # With 200 changes, too, the names come first.
        while book.changes < 200:
            if (9,) in book.table.space:
                book.take((9,))
            else:
                book.put((9,), 0, {})
        self.assertEqual(refusal(self, book.ask, ("v", 1, (3,)), TooMany).most, 20)

    def test_tellings_with_cells(self):
        book = Book()
        for at in (0, 2, 4):
            book.put((at,), 2, {})
        book.ask("a", 0, (1, 2, 3, 4, 5, 6))
        book.put((3,), 1, {})
        self.assertEqual(book.question("a"), (0, (1, 2, 3, 4, 0, 5, 6)))
        book.put((1,), 0, {})
        book.take((2,))
        self.assertEqual(book.question("a"), (0, (1, 2, 0, 5, 6)))
        book.put((2,), 2, {})
        self.assertEqual(book.question("a"), (0, (1, 2, 0, 0, 0, 5, 6)))
        book.undo(calls=2)
        self.assertEqual(book.question("a"), (0, (1, 2, 3, 4, 0, 5, 6)))

    def test_degrees_that_lack_cells(self):
        book = little()
        book.ask("a", 1, (7,))
        book.ask("b", 0, (7, 8))
        book.take((0, 1))
        self.assertEqual(book.question("a"), (1, ()))
        self.assertEqual(book.answer("a"), (("made", (2, ()), ()), (0, 0)))
        book.take((0,))
        book.take((1,))
        self.assertEqual([book.answer("a"), book.answer("b")], [(("made", (0, ()), ()), ())] * 2)
        solid = built(constant(SOLID, 1))
        solid.ask("c", 3, (5,))
        solid.ask("d", 2, (1, 0, 0, 0))
        for cell in reversed(SOLID[1:]):
            solid.take(cell)
        self.assertEqual([solid.question("c"), solid.question("d")], [(3, ()), (2, ())])
        self.assertEqual(solid.answer("c"), (("made", (0, ()), ()), ()))
        self.assertEqual(solid.answer("d"), (("made", (0, ()), ()), ()))
        # Put again, the cells have 0.
        for cell in SOLID[1:]:
            solid.put(cell, 1, maps_of(constant(SOLID, 1), cell))
        self.assertEqual([solid.question("c"), solid.question("d")], [(3, (0,)), (2, (0,) * 4)])
        solid.undo(calls=28)
        self.assertEqual([solid.question("c"), solid.question("d")], [(3, (5,)), (2, (1, 0, 0, 0))])

    def test_answers(self):
        source, kinds = random.Random(3), []
        for table in [TWIST, constant(SOLID, 1)] + random_tables(202, 15, 5):
            book = built(table)
            for degree in range(max([len(cell) for cell in table.space], default=1)):
                size = sum([rank for cell, rank in table.ranks.items() if len(cell) == degree + 1])
                row = some_row(size, source, 1)
                book.ask("a", degree, row)
                claim, paper = book.answer("a")
                grid = rise_grid(table, degree - 1) if degree else nought(size, 0)
                self.assertEqual(claim[1:], (grid, row))
                self.assertTrue(holds(claim, paper))
                self.assertIs(takes(claim, paper), True)
                kinds.append(claim[0])
                book.drop("a")
        self.assertGreater(min(kinds.count("made"), kinds.count("barred")), 3)
        self.assertEqual(Book().changes, 0)


class Undone(unittest.TestCase):
    def test_random_changes(self):
        # Whatever changes were done and undone: the book is one built from nothing.
        for seed in range(12):
            self.check_changes(random.Random(seed))

    def check_changes(self, source):
        """Random changes, all of them checked by what a book should be."""
        book, plain, weights = Book(), Plain(), {}
        for _ in range(150):
            word = source.choice(("put", "put", "put", "take", "ask", "drop", "undo"))
            space = plain.space()
            if word == "put":
                cell = tuple(sorted(source.sample(range(5), source.choice((1, 1, 2, 2, 3)))))
                faces = [face for _, face in told_faces(cell)]
                if cell in plain.cells or not all([face in plain.cells for face in faces]):
                    continue
                rank = source.choice((0, 1, 1, 2)) if len(cell) < 3 else 0
                maps = {face: nought(rank, plain.cells[face]) for face in faces}
                if source.random() < 0.7 and len(cell) == 2:
                    maps = {face: (plain.cells[face], tuple([some_row(plain.cells[face], source,
                        2) for _ in range(rank)]))
                            for face in faces}
                book.put(cell, rank, maps)
                plain.put(cell, rank, maps)
            elif word == "take":
                free = [cell for cell in space if not any([set(cell) < set(other) for other in space])]
                if free:
                    cell = source.choice(free)
                    book.take(cell)
                    plain.take(cell)
            elif word == "ask" and len(plain.questions) < 8:
                degree = source.randrange(max([len(cell) for cell in space], default=1))
                size = sum([plain.cells[cell] for cell in space if len(cell) == degree + 1])
                name = source.choice("abcdefghij")
                if name not in plain.questions:
                    row = some_row(size, source, 2)
                    book.ask(name, degree, row)
                    plain.ask(name, degree, row)
            elif word == "drop" and plain.questions:
                name = source.choice(sorted(plain.questions))
                book.drop(name)
                plain.step()
                del plain.questions[name]
            elif word == "undo" and plain.past and source.random() < 0.6:
                many = source.randint(1, min(4, len(plain.past)))
                self.assertIsNone(book.undo(calls=many) if many > 1 else book.undo())
                plain.undo(many)
            weights[word] = weights.get(word, 0) + 1
            self.check_equal(book, plain)
        self.assertEqual(len(weights), 5)

    def check_equal(self, book, plain):
        """The book is what it should be."""
        self.assertEqual(book.changes, len(plain.past))
        self.assertEqual(book.table, plain.table())
        self.assertEqual(book.names, tuple(sorted(plain.questions)))
        fresh = built(plain.table())
        for name in book.names:
            self.assertEqual(book.question(name), plain.telling(name))
            degree, telling = plain.telling(name)
            if degree < max([len(cell) for cell in plain.cells], default=1):
                fresh.ask(name, degree, telling)
                self.assertEqual(fresh.answer(name), book.answer(name))
        if fresh.names == book.names:
            self.assertTrue(fresh == book)
        self.assertEqual(str(book), f"book of {len(plain.cells)} cells, {len(plain.questions)} questions")

    def test_undoing(self):
        book = little()
        book.ask("a", 1, (3,))
        self.assertIsNone(book.undo())
        self.assertEqual((book, book.names), (little(), ()))
        refused(self, lambda: book.undo(calls=4), (), ("calls", 3))
        refused(self, lambda: book.undo(calls=10 ** 12 - 1), (), ("calls", 3))
        self.assertEqual(len(book), 3)
        book.undo(calls=2)
        self.assertEqual((len(book), book.changes), (1, 1))
        book.undo(calls=1)
        refused(self, book.undo, (), ("calls", 0))
        refused(self, Book().undo, (), ("calls", 0))
        for wrong in WRONG_INTEGERS + (0, -1):
            self.assertIs(refusal(self, lambda: book.undo(calls=wrong), (), InvalidNumber).given, wrong)
        with self.assertRaises(TypeError):
            book.undo(1)

    def test_dropping(self):
        book = little()
        book.ask("a", 1, (3,))
        self.assertIsNone(book.drop("a"))
        self.assertEqual((book.names, book.changes, "a" in book), ((), 5, False))
        self.assertEqual(book, little())
        book.undo()
        self.assertEqual(book.question("a"), (1, (3,)))


class Books(unittest.TestCase):
    def test_empty_one(self):
        book = Book()
        self.assertEqual((book.table, book.names, book.changes, len(book)), (constant((), 1), (), 0, 0))
        self.assertEqual(str(book), "book of 0 cells, 0 questions")
        refused(self, book.take, ((0,),), ("lacks", (0,)))
        book.ask("a", 0, ())
        self.assertEqual(book.answer("a"), (("made", (0, ()), ()), ()))
        book.put((5,), 2, {})
        self.assertEqual(book.question("a"), (0, (0, 0)))

    def test_twins(self):
        book = little()
        book.ask("a", 1, (3,))
        twin = book.twin()
        self.assertTrue(twin == book)
        self.assertEqual((twin.changes, twin.names), (4, ("a",)))
        twin.put((2,), 1, {})
        twin.drop("a")
        self.assertEqual((book.changes, book.names, len(book)), (4, ("a",), 3))
        self.assertFalse(twin == book)
        book.undo(calls=2)
        self.assertEqual((len(book), len(twin), twin.changes), (2, 4, 6))
        twin.undo(calls=3)
        self.assertTrue(twin == little())
        twin.undo(calls=3)
        self.assertEqual(len(twin), 0)
        self.assertEqual(len(book), 2)

    def test_equal_ones(self):
        one, other = little(), built(little().table)
        self.assertTrue(one == other)
        other.put((5,), 1, {})
        other.take((5,))
        # Books are equal by what stands, whatever was done ahead.
        self.assertTrue(one == other)
        one.ask("a", 0, (1, 2))
        self.assertFalse(one == other)
        other.ask("a", 0, (1, 3))
        self.assertFalse(one == other)
        other.drop("a")
        other.ask("a", 0, (1, 2))
        self.assertTrue(one == other)
        one.ask("b", 0, (1, 2))
        other.ask("c", 0, (1, 2))
        self.assertTrue(one != other)
        for value in ODD + (one.table, one.names):
            self.assertFalse(one == value)
            self.assertFalse(value == one)
        self.assertIn(Book(), [None, one, Book()])
        self.assertRaises(TypeError, iter, one)

    def test_state(self):
        book = little()
        maps = {(0,): ONE, (2,): TWO}
        book.put((2,), 1, {})
        book.put((0, 2), 1, maps)
        maps[(2,)] = None
        table = book.table
        self.assertEqual(table.maps[((2,), (0, 2))], TWO)
        table.ranks.clear()
        table.maps.clear()
        book.take((0, 2))
        self.assertEqual((len(table.space), len(book.table.space)), (5, 4))
        for name in ("table", "names", "changes"):
            with self.assertRaises(AttributeError):
                setattr(book, name, None)
        # What is refused has no effect.
        before = book.twin()
        for function, arguments in (
                (book.put, ((0,), 1, {})), (book.put, ((3,), 9, {})), (book.take, ((0,),)), (book.ask, ("A", 0, ())),
                (book.ask, ("a", 0, ())), (book.drop, ("a",)), (book.question, ("a",))):
            self.assertRaises((ValueError, ArithmeticError, LookupError), function, *arguments)
        self.assertTrue(book == before and book.changes == before.changes)


if __name__ == "__main__":
    unittest.main()
