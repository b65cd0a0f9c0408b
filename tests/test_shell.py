"""The shell of a book [20.3]."""

import random
import unittest

from gluewhole.book.book import Book
from gluewhole.errors import GlueError, InvalidNumber, ParseError, Refused, TooMany, UnknownName
from gluewhole.tables.groups import group, rows_of
from gluewhole.tables.tables import constant
from gluewhole.use.shell import Shell
from gluewhole.use.texts import grid_text, table_text
from tests.helper import ODD, ONE, TWO, closed, nought, refusal, some_row, told_faces

EDGE_LINES = ("put 0 1", "put 1 1", "put 0.1 1 0 1x1:1 1 1x1:2")


def shell_of(*lines):
    """A shell behind some lines, all of them done."""
    shell = Shell()
    for line in lines:
        answer = shell.run(line)
        assert answer in ("put", "taken", "asked", "dropped", "undone"), (line, answer)
    return shell


def cell_word(cell):
    """The text of a cell."""
    return ".".join([str(point) for point in cell])


def row_word(row):
    """The text of a row."""
    return ",".join([str(number) for number in row])


class Examples(unittest.TestCase):
    def test_lines(self):
        shell = Shell()
        self.assertEqual(
            [shell.run(line) for line in (
                "put 0 1", "put 0.1 1 0 1x1:1 1 1x1:2", "ask one 0 1", "answer one", "telling one", "group 0",
                "group 2")],
            ["put", "refused face 1", "asked", "barred", "0 1", "1 ", "wrong"])


class Lines(unittest.TestCase):
    def test_changes(self):
        shell = Shell()
        for line, answer in (
                ("put 0 1", "put"), ("put 1 1", "put"), ("put 0.1 1 0 1x1:1 1 1x1:2", "put"), ("ask one 1 1", "asked"),
                ("answer one", "made"), ("telling one", "1 1"), ("group 0", "1 "), ("group 1", "0 "),
                ("book", "book of 3 cells, 1 questions"), ("ask two 0 5,-3", "asked"), ("answer two", "barred"),
                ("telling two", "0 5,-3"), ("drop one", "dropped"), ("telling one", "unknown"), ("undo", "undone"),
                ("telling one", "1 1"), ("take 0.1", "taken"), ("telling one", "1 "), ("answer one", "made"),
                ("group 0", "2 "), ("group 1", "wrong"), ("table", "cell 0 1\ncell 1 1\n"), ("undo", "undone"),
                ("table", "cell 0 1\ncell 1 1\ncell 0.1 1\nmap 0 1x1:1\nmap 1 1x1:2\n")):
            self.assertEqual(shell.run(line), answer, line)
        self.assertEqual(shell.book().changes, 5)

    def test_empty_ones(self):
        shell = Shell()
        for line, answer in (
                ("table", ""), ("book", "book of 0 cells, 0 questions"), ("group 0", "0 "), ("group 1", "wrong"),
                ("undo", "refused calls 0"), ("ask a 0 ", "asked"), ("telling a", "0 "), ("answer a", "made"),
                ("put 5 0", "put"), ("telling a", "0 "), ("put 6 1", "put"), ("telling a", "0 0"),
                ("put 5.6 2 5 2x0: 6 2x1:1,0", "put"), ("group 1", "1 "), ("ask b 1 0,0", "asked"),
                ("group 0", "0 "), ("undo", "undone")):
            self.assertEqual(shell.run(line), answer, line)

    def test_groups(self):
        shell = shell_of("put 0 1", "put 1 1", "put 0.1 2 0 2x1:6,0 1 2x1:0,-4")
        self.assertEqual([shell.run("group 0"), shell.run("group 1")], ["0 ", "0 2,12"])

    def test_refused_ones(self):
        shell = shell_of(*EDGE_LINES, "ask one 1 1")
        for line, answer in (
                ("put 0 1", "refused there 0"), ("put 0.1 1 0 1x1:1 1 1x1:2", "refused there 0.1"),
                ("put 0.2 1 0 1x1:1 2 1x1:2", "refused face 2"), ("put 12.34 0 12 0x1: 34 0x1:", "refused face 12"),
                ("put 0.1.2 1 0.1 1x1:1 0.2 1x1:1 1.2 1x1:1", "refused face 0.2"), ("take 5", "refused lacks 5"),
                ("take 0", "refused under 0.1"), ("take 1", "refused under 0.1"), ("take 0.1.2", "refused lacks 0.1.2"),
                ("ask one 0 1,2", "refused there one"), ("drop two", "unknown"), ("answer two", "unknown"),
                ("telling two", "unknown"), ("ask two 0 1", "wrong"), ("ask two 0 ", "wrong"), ("ask two 2 1", "wrong"),
                ("ask two 9 1", "wrong"), ("ask two -1 1", "wrong"), ("group 2", "wrong"), ("group -1", "wrong"),
                ("group 4", "wrong"), ("group 999999999999", "wrong"), ("put 7 5", "wrong"), ("put 7 -1", "wrong"),
                ("put 7 999999999999", "wrong")):
            self.assertEqual(shell.run(line), answer, line)
        self.assertEqual(shell.book(), shell_of(*EDGE_LINES, "ask one 1 1").book())
        self.assertEqual(shell.book().changes, 4)
        shell = shell_of("put 0 1", "put 1 1", "put 2 1")
        self.assertEqual(shell.run("put 0.1 1 0 1x2:1,0 1 1x1:1"), "refused grid 0")
        self.assertEqual(shell.run("put 0.1 1 0 1x1:1 1 2x1:1,1"), "refused grid 1")
        for line in ("put 0.1 1 0 1x1:1 1 1x1:1", "put 0.2 1 0 1x1:1 2 1x1:1", "put 1.2 1 1 1x1:1 2 1x1:1"):
            self.assertEqual(shell.run(line), "put")
        self.assertEqual(shell.run("put 0.1.2 1 0.1 1x1:1 0.2 1x1:2 1.2 1x1:1"), "refused ways 0")
        self.assertEqual(shell.run("put 0.1.2 1 0.1 1x1:1 0.2 1x1:1 1.2 1x1:0"), "refused ways 1")
        self.assertEqual(shell.run("put 0.1.2 1 0.1 1x1:1 0.2 1x1:1 1.2 1x1:1"), "put")

    def test_full_ones(self):
        shell = shell_of(*[f"put {at} 0" for at in range(80)])
        self.assertEqual(shell.run("put 80 0"), "full 80")
        shell = shell_of(*[f"put {at} 4" for at in range(7)])
        self.assertEqual(shell.run("put 7 3"), "full 30")
        shell = shell_of("put 0 1", *[f"ask {letter} 0 1" for letter in "abcdefghijklmnopqrst"])
        self.assertEqual(shell.run("ask u 0 1"), "full 20")
        shell = shell_of(*["put 0 1", "take 0"] * 100)
        self.assertEqual([shell.run("put 0 1"), shell.run("ask a 0 "), shell.run("undo")], ["full 200", "full 200",
            "undone"])


class Parsing(unittest.TestCase):
    def check_at(self, line, at):
        """The line has its first wrong word at this index."""
        shell = shell_of(*EDGE_LINES, "ask one 1 1")
        self.assertEqual(refusal(self, shell.run, (line,), ParseError).at, at, line)
        self.assertEqual((shell.book(), shell.book().changes), (shell_of(*EDGE_LINES, "ask one 1 1").book(), 4))

    def test_no_strings(self):
        shell = Shell()
        for value in ODD:
            if not isinstance(value, str):
                self.assertIsNone(refusal(self, shell.run, (value,), ParseError).at)

    def test_first_words(self):
        for line in ("", " ", "  ", "x", "Put 0 1", "puts 0 1", " put 0 1", "put\n0 1", "undo\n", "table\t", "0",
                "one", "\n",
                     "put,0,1", "x" * 20000, "made", "full", "wrong", "refused"):
            self.check_at(line, 0)

    def test_one_more_wanted(self):
        for line in ("put", "take", "ask", "drop", "answer", "telling", "group"):
            self.check_at(line, 1)
        for line, at in (
                ("put 0", 2), ("ask two", 2), ("ask two 0", 3), ("put 0.1 1", 3), ("put 0.1 1 0", 4),
                ("put 0.1 1 0 1x1:1", 5),
                ("put 0.1 1 0 1x1:1 1", 6), ("put 0.1.2 0 0.1 0x0:", 5)):
            self.check_at(line, at)

    def test_one_too_many(self):
        for line, at in (
                ("undo 1", 1), ("table 0", 1), ("book one", 1), ("take 0 1", 2), ("drop one two", 2),
                ("answer one 1", 2),
                ("telling one 1", 2), ("group 0 1", 2), ("ask two 0 1,2 3", 4), ("put 0 1 2", 3), ("put 0 1 0 1x1:1",
                 3),
                ("put 0.1 1 0 1x1:1 1 1x1:2 5", 7), ("undo undo", 1)):
            self.check_at(line, at)

    def test_blanks(self):
        for line, at in (
                ("undo ", 1), (" undo", 0), ("take  0", 1), ("take 0 ", 2), ("put  0 1", 1), ("put 0  1", 2),
                ("put 0 1 ", 3),
                ("take ", 1), ("drop ", 1), ("group ", 1), ("ask ", 1), ("ask two ", 2), ("ask  two 0 1", 1),
                ("ask two 0  1", 4),
                ("ask two 0 1,2 ", 4), ("put 0.1 1 ", 3), ("put 0.1 1 0 ", 4), ("put 0.1 1 0  1x1:1", 4), ("table ",
                 1)):
            self.check_at(line, at)
        # One blank behind a degree tells the empty row; but no row is left out.
        self.assertEqual(Shell().run("ask two 0 "), "asked")
        self.check_at("ask two 0", 3)

    def test_words(self):
        for line, at in (
                ("put a 1", 1), ("put 00 1", 1), ("put -1 1", 1), ("put 100 1", 1), ("put 0. 1", 1), ("put 1.0 1", 1),
                ("put 0.0 1", 1), ("put 0,1 1", 1), ("put 0.1.2.3.4 1", 1), ("put 5 a", 2), ("put 5 01", 2),
                ("put 5 -0", 2),
                ("put 5 1.0", 2), ("put 5 1000000000000", 2), ("put 0.1 1 1 1x1:1", 3), ("put 0.1 1 00 1x1:1", 3),
                ("put 0.1 1 0 1x1", 4), ("put 0.1 1 0 1x1:", 4), ("put 0.1 1 0 1x1:01", 4), ("put 0.1 1 0 61x0:", 4),
                ("put 0.1 1 0 1x1:1000000000000", 4), ("put 0.1 1 0 1x1:1 0 1x1:1", 5), ("put 0.1 1 0 1x1:1 2 1x1:1",
                 5),
                ("put 0.1 1 0 1x1:1 1 1,1", 6), ("put 0.1.2 1 0.1 1x1:1 1.2 1x1:1 0.2 1x1:1", 5), ("take x", 1),
                ("take 0.", 1), ("ask One 0 1", 1), ("ask abcdefghi 0 1", 1), ("ask one1 0 1", 1), ("ask two x 1", 2),
                ("ask two 00 1", 2), ("ask two 0 a", 3), ("ask two 0 1,", 3), ("ask two 0 ,1", 3), ("ask two 0 1.2", 3),
                ("ask two 0 01", 3), ("ask two 0 -0", 3), ("ask two 0 1000000000000", 3), ("ask two 0 (1,)", 3),
                ("ask two 0 " + ",".join(["0"] * 61), 3), ("drop A", 1), ("answer one1", 1), ("telling abcdefghi", 1),
                ("group x", 1), ("group 01", 1), ("group -0", 1), ("group 1000000000000", 1), ("group 0,1", 1)):
            self.check_at(line, at)
        shell = shell_of(*EDGE_LINES)
        self.assertEqual(shell.run("ask abcdefgh 0 999999999999,-999999999999"), "asked")
        self.assertEqual(shell.run("telling abcdefgh"), "0 999999999999,-999999999999")
        self.assertEqual(shell.run("ask two 0 " + ",".join(["0"] * 60)), "wrong")
        # The first wrong word counts.
        self.check_at("put x y z", 1)
        self.check_at("put 0.1 1 0 x y z", 4)


class Books(unittest.TestCase):
    def test_twins(self):
        shell = shell_of(*EDGE_LINES)
        book = shell.book()
        self.assertIsInstance(book, Book)
        book.put((9,), 1, {})
        book.undo(calls=4)
        self.assertEqual(shell.run("book"), "book of 3 cells, 0 questions")
        self.assertEqual((len(book), len(shell.book()), shell.book().changes), (0, 3, 3))
        other = Shell()
        self.assertEqual((len(other.book()), other.run("book")), (0, "book of 0 cells, 0 questions"))
        self.assertRaises(TypeError, iter, shell)
        self.assertFalse(shell == book)

    def test_shells_answer_as_books(self):
        answers = {}
        for seed in range(10):
            answers.update(self.check_lines(random.Random(seed)))
        for word in ("put", "taken", "asked", "refused", "unknown", "wrong", "made", "barred", "undone", "dropped"):
            self.assertIn(word, answers)

    def check_lines(self, source):
        """Random lines: the shell does what its book would do."""
        shell, book, answers = Shell(), Book(), {}
        for _ in range(200):
            line, told = self.some_line(source, book)
            answer = shell.run(line)
            self.assertEqual(answer, told, line)
            answers[answer.split(" ")[0]] = True
            self.assertEqual(shell.book(), book)
            self.assertEqual(shell.book().changes, book.changes)
        return answers

    def some_line(self, source, book):
        """A random line, done with the book, and its answer."""
        word = source.choice(("put", "put", "put", "take", "ask", "ask", "drop", "undo", "answer", "telling",
            "group", "table", "book"))
        cell = tuple(sorted(source.sample(range(4), source.choice((1, 1, 2, 2, 3)))))
        name, degree = source.choice("abcde"), source.randint(-1, 3)
        try:
            if word == "put":
                rank = source.choice((0, 1, 1, 2, 5))
                maps = {face: source.choice((ONE, TWO, nought(1, 1), nought(rank, 0), nought(2, 1)))
                        for face in sorted([face for _, face in told_faces(cell)])}
                line = f"put {cell_word(cell)} {rank}" + "".join([
                    f" {cell_word(face)} {grid_text(grid)}" for face, grid in maps.items()])
                book.put(cell, rank, maps)
                return line, "put"
            if word == "take":
                line = f"take {cell_word(cell)}"
                book.take(cell)
                return line, "taken"
            if word == "ask":
                size = sum([rank for one, rank in book.table.ranks.items() if len(one) == degree + 1])
                row = some_row(max(size + source.choice((0, 0, 0, 1)), 0), source, 3)
                line = f"ask {name} {degree} {row_word(row)}"
                book.ask(name, degree, row)
                return line, "asked"
            line = f"{word} {name}" if word in ("drop", "answer", "telling") else word
            if word == "drop":
                book.drop(name)
                return line, "dropped"
            if word == "answer":
                return line, book.answer(name)[0][0]
            if word == "telling":
                return line, f"{book.question(name)[0]} {row_word(book.question(name)[1])}"
            if word == "group":
                line = f"group {degree}"
                rank, divisors = group(rows_of(book.table), degree)
                return line, f"{rank} {row_word(divisors)}"
            if word == "undo":
                book.undo()
                return line, "undone"
        except Refused as error:
            words = [cell_word(one) if isinstance(one, tuple) else str(one) for one in error.reason]
            return line, " ".join(["refused"] + words)
        except TooMany as error:
            return line, f"full {error.most}"
        except UnknownName:
            return line, "unknown"
        except (GlueError, InvalidNumber):
            return line, "wrong"
        return line, table_text(book.table) if word == "table" else str(book)

    def test_equal_calls(self):
        lines = EDGE_LINES + ("ask one 1 1", "take 0", "answer one", "put 0 1")
        one, other = Shell(), Shell()
        self.assertEqual([one.run(line) for line in lines], [other.run(line) for line in lines])
        self.assertEqual(one.book(), other.book())
        self.assertEqual(shell_of("put 0 1", "undo").book().table, constant((), 1))
        self.assertEqual(shell_of(*EDGE_LINES).book().table.space, closed([(0, 1)]))


if __name__ == "__main__":
    unittest.main()
