"""Wholes [8.1] to [8.5]."""

import random
import unittest

from gluewhole.base.made import kernel_answer
from gluewhole.errors import InvalidCell, InvalidSpace, InvalidTable, InvalidTelling, Refused
from gluewhole.space.spaces import pieces
from gluewhole.tables.tables import Table, constant, restricted, table_sum
from gluewhole.tables.tellings import is_still, part, rise_grid, spots, spread
from gluewhole.tables.wholes import (
    board, cover_fault, extend_answer, is_whole_base, put_together, says, whole_base, wish)
from tests.helper import (
    EDGE, FILLED, ROUND, TWIST, TWO, WRONG, WRONG_ROWS, bars, check_judged, check_wrong, closed, holds, random_tables,
    refusal, spaces, times, transposed, undone_pair)

PLAIN = constant(ROUND, 1)
LONG = 10 ** 30
TABLES = random_tables(81, 40)
WRONG_TOLD = (
    None, True, 0, "", (), [], ((0,), (1,)), {(0,): 1}, {(0,): (1, 2)}, {(0,): ()}, {(9,): (1,)}, {(0, 1): (1,)},
    {0: (1,)}, {(0,): (10 ** 12,)}, {(0,): [1]}, {(0,): (True,)}, {(True,): (1,)}, {(0,): (1,), (1,): None}, {None: ()},
    TWIST, {(0,): TWIST})
WRONG_POINTS = (
    None, True, 0, "", [], {}, (0,), ((1,), (0,)), ((0,), (0,)), ((0, 1),), ((0,), (0, 1)), ((9,),), ([0],), ((True,),),
    ((0,), (True,)), TWIST, (TWIST,))
WRONG["told"] = (InvalidTelling, WRONG_TOLD)
WRONG["points"] = (InvalidCell, WRONG_POINTS)
WRONG["whole"] = (InvalidTelling, WRONG_ROWS + ((1, 1), (1, 1, 2), (1, 1, 1, 1), (10 ** 12,) * 3, (True,) * 3))


def told_at(table, points, whole):
    """What a whole says at some points."""
    return {point: part(table, 0, whole, point) for point in points}


def points_of(table):
    """The cells of the degree 0."""
    return [cell for cell in table.space if len(cell) == 1]


def columns(rows, size):
    """The grid with these columns."""
    return transposed((size, tuple(rows)))


class Examples(unittest.TestCase):
    def test_bases(self):
        self.assertEqual(
            [whole_base(TWIST), is_whole_base(PLAIN, ((-1, -1, -1),)), is_whole_base(PLAIN, ((2, 2, 2),)),
             says(PLAIN, (3, 3, 3), (0, 2))],
            [(), True, False, (3,)])

    def test_boards(self):
        self.assertEqual(
            [board(TWIST, ((2,),)), wish(TWIST, {(2,): (5,)}), extend_answer(TWIST, {(2,): (5,)})[0][0],
             extend_answer(PLAIN, {(0,): (4,)})[1]],
            [(3, ((-1, 1, 0), (-1, 0, 1), (0, -1, -1), (0, 0, 1))), (0, 0, 0, 5), "barred", (4, 4, 4)])

    def test_put_together(self):
        self.assertEqual(put_together(PLAIN, ROUND[:5], (6, 6, 6), ((1,), (2,), (1, 2)), (6, 6)), (6, 6, 6))

    def test_unlike_ones(self):
        caught = refusal(
            self, put_together, (PLAIN, ROUND[:5], (6, 6, 6), ((1,), (2,), (1, 2)), (7, 7)), Refused)
        self.assertEqual(caught.reason, ("unlike", (1,)))


class Bases(unittest.TestCase):
    def test_bases_by_papers(self):
        for table in TABLES:
            base, grid = whole_base(table), rise_grid(table, 0)
            claim, paper = kernel_answer(grid)
            self.assertTrue(holds(claim, paper))
            self.assertEqual(len(base), claim[2][0])
            self.assertTrue(all([is_still(table, 0, whole) for whole in base]))
            self.assertIs(is_whole_base(table, base), True)
            # The base is led by L of the paper to the columns of a grid, which has to be undone.
            told = times(paper[1], columns(base, grid[0]))
            self.assertEqual(times(claim[2], told), columns(base, grid[0]))
            self.assertTrue(abs(determinant(told)) == 1)

    def test_other_bases(self):
        source = random.Random(5)
        for table in TABLES:
            base = whole_base(table)
            size = len(base)
            for _ in range(2):
                turn = undone_pair(size, source)[0]
                other = tuple(transposed(times(columns(base, rise_grid(table, 0)[0]), turn))[1])
                self.assertIs(is_whole_base(table, other), True)
                if size:
                    self.assertIs(is_whole_base(table, other[1:]), False)
                    self.assertIs(is_whole_base(table, other + other[:1]), False)
                    double = tuple([2 * number for number in other[0]])
                    self.assertIs(is_whole_base(table, (double,) + other[1:]), False)
                    self.assertIs(is_whole_base(table, list(other)), False)
                    self.assertIs(is_whole_base(table, (list(other[0]),) + other[1:]), False)
                if size > 1:
                    self.assertIs(is_whole_base(table, other[:1] + other[:-1]), False)
                    self.assertIs(is_whole_base(table, other[::-1]), True)

    def test_judging(self):
        check_judged(
            self, is_whole_base, (PLAIN,), [((1, 1, 1),), ((-1, -1, -1),)],
            [((1, 1, 2),), ((True, True, True),), ((1, 1),), ((0, 0, 0),), (), ((1, 1, 1), (0, 0, 0)), (1, 1, 1)])
        check_judged(self, is_whole_base, (TWIST,), [()], [((0, 0, 0),)])
        check_judged(self, is_whole_base, (constant((), 2),), [()], [((),)])
        check_judged(self, is_whole_base, (constant(EDGE, 0),), [()], [((),)])
        apart = constant(((0,), (1,)), 1)
        check_judged(
            self, is_whole_base, (apart,),
            [((1, 0), (0, 1)), ((LONG, 1), (1, 0)), ((LONG + 1, LONG), (1, 1)), ((0, -1), (1, 10 ** 99))],
            [((LONG, 1), (LONG, 1)), ((1, 1), (1, -1)), ((LONG + 1, LONG), (1, 2)), ((1, 0), (0, 1), (0, 0))])

    def test_pieces(self):
        for space in spaces(82, 25):
            found = whole_base(constant(space, 1))
            self.assertEqual(len(found), len(pieces(space)))

    def test_not_true(self):
        # [8.5]: a whole that is nought at one point of a space that hangs together need not be nought.
        table = Table(EDGE, {(0,): 1, (1,): 1, (0, 1): 0}, {((0,), (0, 1)): (1, ()), ((1,), (0, 1)): (1, ())})
        self.assertTrue(is_still(table, 0, (0, 5)))
        self.assertEqual(len(whole_base(table)), 2)

    def test_greatest_sizes(self):
        many = constant(tuple([(point,) for point in range(30)]), 1)
        self.assertIs(is_whole_base(many, whole_base(many)), True)
        self.assertEqual(len(whole_base(many)), 30)
        full = constant(FILLED, 4)
        self.assertEqual(len(whole_base(full)), 4)


def determinant(grid):
    """The determinant, by rows without the first column."""
    if grid[0] == 0:
        return 1
    total = 0
    for at, row in enumerate(grid[1]):
        if row[0]:
            rest = [line[1:] for place, line in enumerate(grid[1]) if place != at]
            total += (-1) ** at * row[0] * determinant((grid[0] - 1, tuple(rest)))
    return total


class Saying(unittest.TestCase):
    def test_all_points_say_the_same(self):
        source = random.Random(7)
        for table in TABLES:
            base = whole_base(table)
            for _ in range(2):
                whole = (0,) * rise_grid(table, 0)[0]
                for one in base:
                    number = source.randint(-5, 5)
                    whole = tuple([a + number * b for a, b in zip(whole, one)])
                for cell in table.space:
                    for point in cell:
                        numbers = part(table, 0, whole, (point,))
                        self.assertEqual(says(table, whole, cell), spread(table, 0, (point,), numbers, cell))

    def test_ranks(self):
        table = table_sum(PLAIN, PLAIN)
        self.assertEqual(says(table, (1, 2, 1, 2, 1, 2), (1, 2)), (1, 2))
        self.assertEqual(says(constant(EDGE, 0), (), (0, 1)), ())


class Extending(unittest.TestCase):
    def test_boards(self):
        for table in TABLES:
            cells = points_of(table)
            for points in (tuple(cells), tuple(cells[::2]), tuple(cells[1:2]), ()):
                width, rows = board(table, points)
                grid = rise_grid(table, 0)
                self.assertEqual((width, rows[:len(grid[1])]), grid)
                places = [at for point in points for at in range(*spots(table, 0)[point])]
                self.assertEqual(
                    list(rows[len(grid[1]):]), [tuple([int(at == place) for at in range(width)]) for place in places])
        self.assertEqual(board(PLAIN, ()), rise_grid(PLAIN, 0))
        self.assertEqual(board(constant((), 1), ()), (0, ()))

    def test_wishes(self):
        self.assertEqual(wish(PLAIN, {(2,): (7,), (0,): (-1,)}), (0, 0, 0, -1, 7))
        self.assertEqual(wish(table_sum(PLAIN, PLAIN), {(1,): (3, 4)}), (0,) * 6 + (3, 4))
        self.assertEqual(wish(PLAIN, {}), (0, 0, 0))
        self.assertEqual(wish(constant((), 1), {}), ())

    def test_both_sides(self):
        source, kinds = random.Random(9), []
        for table in TABLES:
            cells = points_of(table)
            for turn in range(4):
                points = sorted(source.sample(cells, source.randint(0, len(cells))))
                base = whole_base(table)
                whole = (0,) * rise_grid(table, 0)[0]
                for one in base:
                    number = source.randint(-3, 3)
                    whole = tuple([a + number * b for a, b in zip(whole, one)])
                told = told_at(table, points, whole)
                if turn % 2:
                    told = {point: tuple([n + source.randint(0, 1) for n in row]) for point, row in told.items()}
                claim, paper = extend_answer(table, told)
                self.assertEqual(claim[1:], (board(table, tuple(points)), wish(table, told)))
                self.assertTrue(holds(claim, paper))
                kinds.append(claim[0])
                if claim[0] == "made":
                    self.assertTrue(is_still(table, 0, paper))
                    for point in points:
                        begin, end = spots(table, 0)[point]
                        self.assertEqual(paper[begin:end], told[point])
                else:
                    self.assertEqual(turn % 2, 1)
                    self.assertTrue(bars(claim[1], claim[2], paper))
        self.assertGreater(kinds.count("made"), 20)
        self.assertGreater(kinds.count("barred"), 20)

    def test_a_bar_modulo_a_number(self):
        table = Table(EDGE, {cell: 1 for cell in EDGE}, {((0,), (0, 1)): TWO, ((1,), (0, 1)): (1, ((4,),))})
        self.assertEqual(extend_answer(table, {(0,): (2,)})[1], (2, 1))
        claim, paper = extend_answer(table, {(0,): (3,)})
        self.assertEqual(claim[0], "barred")
        self.assertGreater(paper[0], 1)
        self.assertTrue(holds(claim, paper))
        claim, paper = extend_answer(TWIST, {})
        self.assertEqual((claim[0], paper), ("made", (0, 0, 0)))

    def test_what_is_passed_stays(self):
        told = {(2,): (7,), (0,): (7,)}
        extend_answer(PLAIN, told)
        wish(PLAIN, told)
        self.assertEqual(list(told.items()), [((2,), (7,)), ((0,), (7,))])


class PuttingTogether(unittest.TestCase):
    def test_parts_of_wholes(self):
        source, unlike = random.Random(11), 0
        for table in TABLES:
            space = table.space
            for turn in range(3):
                one = closed(source.sample(space, source.randint(0, len(space))))
                other = closed([cell for cell in space if cell not in one])
                self.assertIsNone(cover_fault(table, one, other))
                whole = (0,) * rise_grid(table, 0)[0]
                for base in whole_base(table):
                    number = source.randint(-3, 3)
                    whole = tuple([a + number * b for a, b in zip(whole, base)])
                halves = [on_part(table, sub, whole) for sub in (one, other)]
                self.assertEqual(put_together(table, one, halves[0], other, halves[1]), whole)
                # What wholes of both say need not agree at the common points.
                further = whole_base(restricted(table, one))
                if further:
                    less = tuple([a + b for a, b in zip(halves[0], further[0])])
                    common = [cell for cell in one if cell in other and len(cell) == 1]
                    ahead = restricted(table, one)
                    bad = [cell for cell in common
                           if part(ahead, 0, less, cell) != part(restricted(table, other), 0, halves[1], cell)]
                    if bad:
                        unlike += 1
                        caught = refusal(self, put_together, (table, one, less, other, halves[1]), Refused)
                        self.assertEqual(caught.reason, ("unlike", bad[0]))
                    else:
                        found = put_together(table, one, less, other, halves[1])
                        self.assertTrue(is_still(table, 0, found))
                        self.assertEqual([on_part(table, sub, found) for sub in (one, other)], [less, halves[1]])
        self.assertGreater(unlike, 10)

    def test_bare_cells(self):
        self.assertEqual(cover_fault(PLAIN, ((0,), (1,), (0, 1)), ((0,), (1,))), (2,))
        self.assertEqual(cover_fault(PLAIN, ROUND[:5], ((2,),)), (1, 2))
        self.assertIsNone(cover_fault(PLAIN, ROUND, ()))
        self.assertIsNone(cover_fault(PLAIN, (), ROUND))
        self.assertEqual(cover_fault(PLAIN, (), ()), (0,))
        self.assertIsNone(cover_fault(constant((), 1), (), ()))
        caught = refusal(self, put_together, (PLAIN, ROUND[:5], (6, 6, 6), ((1,),), (7,)), Refused)
        self.assertEqual(caught.reason, ("bare", (1, 2)))
        self.assertEqual(put_together(constant((), 1), (), (), (), ()), ())
        self.assertEqual(put_together(PLAIN, (), (), ROUND, (4, 4, 4)), (4, 4, 4))
        self.assertEqual(put_together(PLAIN, ROUND, (4, 4, 4), ROUND, (4, 4, 4)), (4, 4, 4))
        caught = refusal(self, put_together, (PLAIN, ROUND, (4, 4, 4), ROUND, (5, 5, 5)), Refused)
        self.assertEqual(caught.reason, ("unlike", (0,)))


def on_part(table, sub, telling):
    """The part of a telling of the degree 0 on a sub-space."""
    found = spots(table, 0)
    return tuple([number for cell in sub if len(cell) == 1 for number in telling[slice(*found[cell])]])


class Wrong(unittest.TestCase):
    def test_one_table(self):
        check_wrong(self, whole_base, (PLAIN,), ("table",))
        check_wrong(self, is_whole_base, (PLAIN, None), ("table", None))
        check_wrong(self, board, (PLAIN, ((0,), (2,))), ("table", "points"))
        for function in (wish, extend_answer):
            check_wrong(self, function, (PLAIN, {(0,): (1,)}), ("table", "told"))

    def test_saying(self):
        check_wrong(self, says, (PLAIN, (1, 1, 1), (0, 1)), ("table", "whole", "cell of"))
        refusal(self, says, (TWIST, (1, 1, 1), (0, 1)), InvalidTelling)
        refusal(self, says, (constant((), 1), (), (0,)), InvalidCell)
        refusal(self, says, (PLAIN, (1, 1, 1), (0, 1, 2)), InvalidCell)

    def test_two_sub_spaces(self):
        check_wrong(self, cover_fault, (PLAIN, ROUND[:5], ((1,), (2,), (1, 2))), ("table", "sub", "sub"))
        WRONG["half"] = (InvalidTelling, WRONG_ROWS + ((1,), (1, 2), (1, 1, 1), (10 ** 12,) * 2))
        check_wrong(
            self, put_together, (PLAIN, ROUND[:5], (6, 6, 6), ((1,), (2,), (1, 2)), (6, 6)),
            ("table", "sub", "whole", "sub", "half"))
        # Both sub-spaces and wholes are looked at ahead of what they lack.
        refusal(self, put_together, (PLAIN, ((0,),), (1,), ((1,),), (1, 2)), InvalidTelling)
        refusal(self, put_together, (PLAIN, ((0,),), (1, 2), ((9,),), (1,)), InvalidTelling)
        refusal(self, put_together, (PLAIN, ((0,),), (1,), ((9,),), (1, 2)), InvalidSpace)

    def test_values_of_the_package(self):
        for function in (whole_base, cover_fault):
            arguments = (ROUND,) if function is whole_base else (ROUND, (), ())
            refusal(self, function, arguments, InvalidTable)


if __name__ == "__main__":
    unittest.main()
