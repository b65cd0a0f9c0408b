"""Texts of grids and tables [20.3]."""

import random
import unittest

from gluewhole.errors import InvalidGrid, InvalidTable, ParseError, TooMany
from gluewhole.tables.tables import Table, constant, table_product
from gluewhole.use.texts import grid_text, read_grid, read_table, table_text
from tests.helper import (
    EDGE, EDGE_GRIDS, FILLED, LESS, ODD, ONE, ROUND, TWIST, WRONG, WRONG_TABLES, check_wrong, closed,
        dense,
    grids, nought, random_tables, refusal, told_faces, unit)

NO_TEXTS = tuple([value for value in ODD if not isinstance(value, str)])
MOST = 10 ** 12 - 1
TEXT = "cell 0 1\ncell 1 1\ncell 0.1 1\nmap 0 1x1:1\nmap 1 1x1:2\n"
FILLED_TEXT = table_text(constant(FILLED, 1))


def told_grid(grid):
    """The text of a grid, by the words of [20.3]."""
    return f"{len(grid[1])}x{grid[0]}:" + ",".join([str(number) for row in grid[1] for number in row])


def told_table(table):
    """The text of a table, by the words of [20.3]."""
    lines = []
    for cell in table.space:
        lines.append(f"cell {'.'.join(map(str, cell))} {table.ranks[cell]}")
        for face in sorted([face for _, face in told_faces(cell)]):
            lines.append(f"map {'.'.join(map(str, face))} {told_grid(table.maps[(face, cell)])}")
    return "".join([line + "\n" for line in lines])


class Examples(unittest.TestCase):
    def test_texts(self):
        table = Table(EDGE, {cell: 1 for cell in EDGE}, {((0,), (0, 1)): ONE, ((1,), (0, 1)): (1, ((2,),))})
        self.assertEqual(
            [table_text(table), grid_text((3, ())), read_grid("2x0:")], [TEXT, "0x3:", (0, ((), ()))])
        self.assertEqual(read_table(TEXT), table)


class Grids(unittest.TestCase):
    def test_both_ways(self):
        for grid in list(EDGE_GRIDS) + grids(210, 60) + [dense(60, 60, 1, MOST), nought(60, 0), nought(0, 60),
                unit(60)]:
            text = grid_text(grid)
            self.assertEqual(text, told_grid(grid))
            self.assertEqual(read_grid(text), grid)
        self.assertEqual([grid_text((0, ())), grid_text(LESS), grid_text(nought(2, 2))], ["0x0:", "1x1:-1",
            "2x2:0,0,0,0"])
        self.assertEqual(read_grid("1x2:999999999999,-999999999999"), (2, ((MOST, -MOST),)))
        self.assertEqual(read_grid("2x1:5,0"), (1, ((5,), (0,))))

    def test_texts_of_nothing(self):
        for text in (
                "", "1", "x", "1x1", ":", "x:", "1x:", "x1:", "0x0", "0x0:0", "0x0:,", "1x0:0", "0x1:0", "1x1:",
                "1x1:1,", "1x1:,1",
                "1x1:1,2", "1x2:1", "2x1:1", "2x2:1,2,3", "2x2:1,2,3,4,5", "1x1:01", "1x1:00", "1x1:-0", "1x1:-01",
                "1x1:+1", "1x1: 1", "1x1:1 ", " 1x1:1", "1x1:1\n", "1 x1:1", "1X1:1", "01x1:1", "1x01:1", "00x0:",
                "-0x0:",
                "0x-0:", "-1x1:", "1x-1:1", "61x0:", "0x61:", "60x61:", "1x1:1:", "1x1::1", "1x1:1:1", "1x1x1:1",
                "1x1:a", "axb:1",
                "1x1:1.0", "1x1:1e3", "1x1:--1", "1x1:-", "1x1:1-", "1x1:1000000000000", "1x1:-1000000000000",
                "1x1:1_0",
                "1000000000000x0:", "0x1000000000000:", "999999999999x0:", "0x999999999999:", "1x2:1, 2", "1x2:1;2",
                "1x1:0x1",
                "1x1:(1)", "(1, ((1,),))", "1x1:1\r", "1x1:\t1", "x" * 20000, "1x1:" + "9" * 13, "1x1:" + "9" * 4000):
            self.assertEqual(refusal(self, read_grid, (text,), ParseError).at, 0)
        for value in NO_TEXTS:
            self.assertIsNone(refusal(self, read_grid, (value,), ParseError).at)

    def test_only_such_texts(self):
        # Bent texts are read only if they are the texts of what comes.
        source, found = random.Random(1), 0
        for grid in grids(211, 40):
            text = grid_text(grid)
            for _ in range(20):
                at = source.randrange(len(text) + 1)
                other = text[:at] + source.choice("0123456789-x:, ") + text[at + source.randint(0, 1):]
                try:
                    told = read_grid(other)
                except ParseError as error:
                    self.assertEqual(error.at, 0)
                    continue
                self.assertEqual(grid_text(told), other)
                found += 1
        self.assertGreater(found, 100)

    def test_long_integers(self):
        for number in (MOST + 1, -MOST - 1, 10 ** 40, 10 ** 99):
            for wrong in (
                    (1, ((number,),)), (2, ((1, number),)), (2, ((1, 2), (3, number))), (1, ((1, number),)),
                    (number, ())):
                refusal(self, grid_text, (wrong,), InvalidGrid)
        for number in (MOST, -MOST):
            self.assertEqual(read_grid(grid_text((1, ((number,),)))), (1, ((number,),)))

    def test_wrong_ones(self):
        check_wrong(self, grid_text, (ONE,), ("grid",))
        refusal(self, grid_text, (TWIST,), InvalidGrid)


class Tables(unittest.TestCase):
    def test_both_ways(self):
        some = [TWIST, constant((), 1), constant(ROUND, 0), constant(FILLED, 4), constant(((5,), (99,)), 2)]
        some += [constant(closed([(0, 1, 2, 3), (3, 70)]), 2), constant(tuple([(at,) for at in range(80)]), 0)]
        for table in some + random_tables(212, 40, 6):
            if any([abs(n) > MOST for grid in table.maps.values() for row in grid[1] for n in row]):
                continue
            text = table_text(table)
            self.assertEqual(text, told_table(table))
            told = read_table(text)
            self.assertEqual(told, table)
            self.assertEqual((list(told.ranks), list(told.maps)), (list(table.ranks), list(table.maps)))
        self.assertEqual(table_text(constant((), 1)), "")
        self.assertEqual(read_table(""), constant((), 1))
        self.assertEqual(table_text(constant(((7,),), 3)), "cell 7 3\n")

    def test_long_integers(self):
        big = Table(EDGE, {cell: 1 for cell in EDGE}, {((0,), (0, 1)): ONE, ((1,), (0, 1)): (1, ((MOST,),))})
        self.assertEqual(read_table(table_text(big)), big)
        self.assertEqual(refusal(self, table_text, (table_product(big, big),), TooMany).most, 12)
        check_wrong(self, table_text, (TWIST,), ("table",))
        self.assertEqual(WRONG["table"], (InvalidTable, WRONG_TABLES))

    def test_no_strings(self):
        for value in NO_TEXTS:
            self.assertIsNone(refusal(self, read_table, (value,), ParseError).at)

    def check_at(self, text, at):
        """The text has its first wrong line at this index."""
        self.assertEqual(refusal(self, read_table, (text,), ParseError).at, at, text)

    def test_last_lines(self):
        self.check_at("cell 0 1", 0)
        self.check_at("\n", 0)
        self.check_at(" ", 0)
        self.check_at("cell 0 1\n ", 1)
        self.check_at("cell 0 1\n\n", 1)
        self.check_at("cell 0 1\ncell 1 1", 1)
        self.check_at(TEXT[:-1], 4)
        self.check_at(TEXT + "x", 5)
        self.check_at(TEXT + "\n", 5)
        # A face is left.
        self.check_at("cell 0 1\ncell 1 1\ncell 0.1 1\n", 3)
        self.check_at("cell 0 1\ncell 1 1\ncell 0.1 1\nmap 0 1x1:1\n", 4)
        self.check_at("cell 0 1\ncell 1 1\ncell 0.1 1\nmap 0 1x1:1", 3)

    def test_wrong_cells(self):
        for line in (
                "", "cell", "cell 1", "cell 1 ", "cell  1 1", " cell 1 1", "cell 1 1 ", "cell 1 1 1", "Cell 1 1",
                "cells 1 1",
                "cell 0 1", "cell 100 1", "cell 01 1", "cell -1 1", "cell a 1", "cell 1. 1", "cell .1 1", "cell 1 5",
                "cell 1 -1",
                "cell 1 01", "cell 1 -0", "cell 1 a", "cell 1 +1", "cell 1 1000000000000", "cell 0.1 1",
                "cell 1.0 1", "cell 0.0 1",
                "cell 0.1.2.3.4 1", "map 0 1x1:1", "cell\t1 1", "cell 1,2 1"):
            self.check_at(f"cell 0 1\n{line}\n", 1)
            self.check_at(f"cell 0 1\n{line}\ncell 5 9\n", 1)
        # Cells come in the sequence of the space: by lengths, and then ascending.
        self.check_at("cell 1 1\ncell 0 1\n", 1)
        self.check_at(TEXT + "cell 2 1\n", 5)
        self.check_at("cell 0 0\ncell 1 0\ncell 2 0\ncell 0.2 0\nmap 0 0x0:\nmap 2 0x0:\ncell 0.1 0\n", 6)
        self.check_at("cell 0 0\ncell 2 0\ncell 0.1 0\n", 2)
        self.check_at(TEXT + "cell 0.1 1\n", 5)

    def test_wrong_maps(self):
        head = "cell 0 1\ncell 1 2\ncell 0.1 1\n"
        for line in (
                "", "map", "map 0", "map 0 ", "map 0 1x1", "map 0 1x1:", "map 0 1x2:1,2", "map 0 2x1:1,2",
                "map 1 1x2:1,2",
                "map 2 1x1:1", "map 00 1x1:1", "map 0 1x1:1 ", "map  0 1x1:1", " map 0 1x1:1", "Map 0 1x1:1",
                "map 0 1x1:-0",
                "map 0 1x1:1000000000000", "map 0.1 1x1:1", "cell 2 1", "map 0 0x1:", "map 0 1x0:", "map 0 1x1:1,"):
            self.check_at(f"{head}{line}\n", 3)
        self.check_at(head + "map 0 1x1:1\nmap 0 1x1:1\n", 4)
        self.check_at(head + "map 0 1x1:1\nmap 1 1x1:1\n", 4)
        self.assertEqual(read_table(head + "map 0 1x1:1\nmap 1 1x2:1,-7\n").ranks, {(0,): 1, (0, 1): 1, (1,): 2})

    def test_ways(self):
        # The last lines of a triangle are the maps from 0.1, 0.2 and 1.2.
        lines = FILLED_TEXT.split("\n")
        self.assertEqual(lines[-5:], ["cell 0.1.2 1", "map 0.1 1x1:1", "map 0.2 1x1:1", "map 1.2 1x1:1", ""])
        for at, back in ((-4, -3), (-3, -3), (-2, -2)):
            bad = list(lines)
            bad[at] = bad[at][:-1] + "2"
            # Two ways are unlike only when both are told: the first map by itself is right.
            self.check_at("\n".join(bad), len(lines) + back)
        both = [line if at not in (13, 14) else line[:-1] + "2" for at, line in enumerate(lines)]
        self.check_at("\n".join(both), 15)
        three = [line if at not in (13, 14, 15) else line[:-1] + "2" for at, line in enumerate(lines)]
        self.assertEqual(read_table("\n".join(three)).maps[((0, 2), (0, 1, 2))], (1, ((2,),)))

    def test_sizes(self):
        eighty = "".join([f"cell {at} 0\n" for at in range(80)])
        self.assertEqual(len(read_table(eighty).space), 80)
        self.check_at(eighty + "cell 80 0\n", 80)
        self.check_at(eighty + "cell 0.1 0\nmap 0 0x0:\nmap 1 0x0:\n", 80)
        seven = "".join([f"cell {at} 4\n" for at in range(7)])
        self.assertEqual(read_table(seven + "cell 7 2\ncell 8 0\n").ranks[(7,)], 2)
        self.check_at(seven + "cell 7 3\n", 7)
        self.check_at(seven + "cell 7 2\ncell 8 1\n", 8)
        # The size of another degree counts by itself.
        more = seven + "cell 7 2\ncell 0.1 1\nmap 0 1x4:1,0,0,0\nmap 1 1x4:0,0,0,0\n"
        self.assertEqual(str(read_table(more)), "table on 9 cells, sizes 30 1")

    def test_only_such_texts(self):
        source, found, places = random.Random(2), 0, set()
        for table in [TWIST, constant(FILLED, 1)] + random_tables(213, 12, 4):
            if any([abs(n) > MOST for grid in table.maps.values() for row in grid[1] for n in row]):
                continue
            text = table_text(table)
            for _ in range(40):
                at = source.randrange(len(text) + 1)
                other = text[:at] + source.choice("0123456789-x:,. \n") + text[at + source.randint(0, 1):]
                try:
                    told = read_table(other)
                except ParseError as error:
                    self.assertIsInstance(error.at, int)
                    lines = other.split("\n")
                    self.assertTrue(0 <= error.at < len(lines))
                    places.add(error.at)
                    # The lines ahead of the wrong one begin a text: with the cells that are done they are one.
                    done = [k for k in range(error.at + 1) if k == error.at or lines[k].startswith("cell")]
                    last = [k for k in done if lines[k].startswith("cell") and k < error.at][-1:] or [0]
                    read_table("".join([line + "\n" for line in lines[:last[0]]]))
                    continue
                self.assertEqual(table_text(told), other)
                found += 1
        self.assertGreater(found, 30)
        self.assertGreater(len(places), 8)


if __name__ == "__main__":
    unittest.main()
