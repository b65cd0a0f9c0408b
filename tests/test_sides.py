"""Sheets, surfaces and their sides [16.7], [16.8]."""

import itertools
import random
import unittest

from gluewhole.errors import InvalidOperation, InvalidSpace, TooMany
from gluewhole.space.spaces import cells_of, is_space, joined, pieces, space_of
from gluewhole.tables.groups import group, rows_of
from gluewhole.tables.tables import constant, table_fault
from gluewhole.turn.sides import is_sheet, is_surface, sides_answer, sides_table
from gluewhole.turn.walks import is_local
from tests.helper import (
    FILLED, ROUND, TWIST, WRONG_SPACES, check_wrong, closed, fastest, holds, refusal, spaces, told_faces, turn_between)

BALL = closed(itertools.combinations(range(4), 3))
PLANE = space_of((
    (0, 1, 4), (0, 1, 5), (0, 2, 3), (0, 2, 5), (0, 3, 4), (1, 2, 3), (1, 2, 4), (1, 3, 5), (2, 4, 5), (3, 4, 5)))
# The surface of eight triangles round two tops.
EIGHT = closed([tuple(sorted((top,) + side)) for top in (0, 5) for side in ((1, 2), (2, 3), (3, 4), (1, 4))])
# Seven points, each two joined.
RING = closed([
    tuple(sorted([(at + step) % 7 for step in steps])) for at in range(7) for steps in ((0, 1, 3), (0, 2, 3))])
# Strips of five triangles: one is twisted once, one of six is not.
MOEBIUS = closed([tuple(sorted([(at + step) % 5 for step in range(3)])) for at in range(5)])
BAND = closed([(0, 1, 3), (1, 3, 4), (1, 2, 4), (2, 4, 5), (0, 2, 5), (0, 3, 5)])
# Two balls that have one point in common: the link of it does not hang together.
PINCHED = joined(BALL, closed(itertools.combinations((3, 4, 5, 6), 3)))


def moved_by(space, step):
    """The space with all points so much greater."""
    return tuple([tuple([point + step for point in cell]) for cell in space])


def drawn_ones(seed, many):
    """Sheets of one or two of the spaces above, with other points, and spaces near them."""
    source, found = random.Random(seed), []
    while len(found) < many:
        tops = []
        for at in range(source.choice((1, 1, 2))):
            tops += moved_by(cells_of(source.choice((BALL, PLANE, EIGHT, RING, MOEBIUS, BAND)), 2), 10 * at)
        names = source.sample(range(100), 20)
        if source.random() < 0.3:
            # Two points become one.
            names[source.randrange(10, 14)] = names[source.randrange(4)]
        tops = [tuple(sorted([names[point] for point in top])) for top in tops]
        if source.random() < 0.5:
            tops.pop(source.randrange(len(tops)))
        if source.random() < 0.5:
            tops.append(tuple(sorted(source.sample(names[:8], source.randint(1, 4)))))
        space = closed([top for top in tops if len(set(top)) == len(top)])
        if len(space) <= 80:
            found.append(space)
    return found


def brute_sides(cells):
    """Whether some sides fit all neighbours, found by trying all of them."""
    turns = [(one, other, turn_between(cells[one], cells[other]))
             for one in range(len(cells)) for other in range(one) if turn_between(cells[one], cells[other])]
    return any([
        all([sides[one] == turn * sides[other] for one, other, turn in turns])
        for sides in itertools.product((1, -1), repeat=len(cells))])


def is_told_sheet(space):
    """Whether the space is a sheet, by the words of [16.7]."""
    faces = [face for cell in space if len(cell) == 3 for _, face in told_faces(cell)]
    return not any([len(cell) == 4 for cell in space]) and all([faces.count(face) <= 2 for face in faces])


def is_told_surface(space):
    """Whether the space is a surface, by the words of [16.8]."""
    if not is_told_sheet(space):
        return False
    tops = [set(cell) for cell in space if len(cell) == 3]
    for cell in space:
        over = [top for top in tops if set(cell) <= top]
        if not over or len(cell) == 2 and len(over) != 2:
            return False
        if len(cell) == 1:
            rests = [top - set(cell) for top in over]
            reached = set(rests[0])
            for _ in rests:
                reached |= {point for rest in rests if rest & reached for point in rest}
            if reached != set().union(*rests):
                return False
    return True


class Examples(unittest.TestCase):
    def test_plane(self):
        self.assertEqual(
            [sides_answer(PLANE)[0][0], group(rows_of(sides_table(PLANE)), 2), group(rows_of(constant(PLANE, 1)), 2)],
            ["one side", (1, ()), (0, (2,))])


class Sheets(unittest.TestCase):
    def test_sheets(self):
        for space in ((), ((0,),), ROUND, FILLED, BALL, PLANE, EIGHT, RING, MOEBIUS, BAND, PINCHED):
            self.assertIs(is_sheet(space), True)
        fan = closed([(0, 1, 2), (0, 1, 3), (0, 1, 4)])
        solid = closed([(0, 1, 2, 3)])
        for space in (fan, solid, joined(ROUND, moved_by(solid, 4))):
            self.assertIs(is_sheet(space), False)
            self.assertIs(is_surface(space), False)
            refusal(self, sides_answer, (space,), InvalidOperation)
            refusal(self, sides_table, (space,), InvalidOperation)

    def test_surfaces(self):
        for space in ((), BALL, PLANE, EIGHT, RING, joined(BALL, moved_by(BALL, 4)), joined(PLANE, moved_by(BALL, 7))):
            self.assertIs(is_surface(space), True)
        # A border, a stretch or point by itself, and links in two parts.
        for space in (
                FILLED, MOEBIUS, BAND, ((0,),), ROUND, PINCHED, joined(BALL, ((9,),)), joined(BALL, closed([(0, 9)])),
                BALL[:-1]):
            self.assertIs(is_surface(space), False)
            refusal(self, sides_table, (space,), InvalidOperation)

    def test_random_ones(self):
        source, kinds = random.Random(1), []
        for space in spaces(165, 60, 6):
            kinds.append(is_sheet(space))
            self.assertIs(is_sheet(space), is_told_sheet(space))
            self.assertIs(is_surface(space), is_told_surface(space))
        for _ in range(60):
            some = source.sample(list(itertools.combinations(range(5), 3)), source.randint(1, 8))
            space = closed(some)
            kinds.append(is_sheet(space))
            self.assertIs(is_sheet(space), is_told_sheet(space))
            self.assertIs(is_surface(space), is_told_surface(space))
        self.assertGreater(min(kinds.count(True), kinds.count(False)), 20)

    def test_drawn_ones(self):
        kinds = []
        for space in drawn_ones(3, 150):
            kinds.append((is_told_sheet(space), is_told_surface(space)))
            self.assertEqual((is_sheet(space), is_surface(space)), kinds[-1])
            if not kinds[-1][0]:
                refusal(self, sides_answer, (space,), InvalidOperation)
            else:
                claim, paper = sides_answer(space)
                self.assertEqual(claim[1], cells_of(space, 2))
                self.assertTrue(holds(claim, paper))
            if not kinds[-1][1]:
                refusal(self, sides_table, (space,), InvalidOperation)
        for kind in ((False, False), (True, False), (True, True)):
            self.assertGreater(kinds.count(kind), 15)

    def test_wrong_ones(self):
        for function in (is_sheet, is_surface, sides_answer, sides_table):
            check_wrong(self, function, (BALL,), ("space",))
            for wrong in WRONG_SPACES:
                refusal(self, function, (wrong,), InvalidSpace)
            refusal(self, function, (TWIST,), InvalidSpace)


class Answers(unittest.TestCase):
    def test_both_sides(self):
        for space, kind in (
                ((), "two sides"), (ROUND, "two sides"), (((3,),), "two sides"), (FILLED, "two sides"),
                (BALL, "two sides"), (EIGHT, "two sides"), (RING, "two sides"), (BAND, "two sides"),
                (PINCHED, "two sides"), (PLANE, "one side"), (MOEBIUS, "one side"),
                (joined(BALL, moved_by(PLANE, 4)), "one side"), (joined(MOEBIUS, moved_by(BAND, 9)), "one side")):
            claim, paper = sides_answer(space)
            self.assertEqual(claim, (kind, cells_of(space, 2)))
            self.assertTrue(holds(claim, paper))
        self.assertEqual(sides_answer(()), (("two sides", ()), ()))
        self.assertEqual(sides_answer(ROUND), (("two sides", ()), ()))

    def test_random_sheets(self):
        source, kinds, found = random.Random(2), [], 0
        while found < 80:
            space = closed(source.sample(list(itertools.combinations(range(6), 3)), source.randint(1, 9)))
            if not is_told_sheet(space):
                continue
            found += 1
            claim, paper = sides_answer(space)
            kinds.append(claim[0])
            self.assertEqual(claim[1], cells_of(space, 2))
            self.assertEqual(claim[0] == "two sides", brute_sides(claim[1]))
            self.assertTrue(holds(claim, paper))
        self.assertIn("two sides", kinds)
        subs = [closed(source.sample(cells_of(PLANE, 2), 8)) for _ in range(10)]
        kinds += [sides_answer(space)[0][0] for space in subs]
        self.assertIn("one side", kinds)


class Tables(unittest.TestCase):
    def test_maps(self):
        # Any row of neighbours above a face comes to the map, from the first one to the first one above the cell.
        surfaces = [space for space in drawn_ones(4, 150) if is_told_surface(space)]
        self.assertGreater(len(surfaces), 10)
        for space in [BALL, PLANE, EIGHT, RING, joined(PLANE, moved_by(BALL, 7))] + surfaces:
            try:
                table = sides_table(space)
            except OverflowError:
                continue
            self.assertIsNone(table_fault(space, table.ranks, table.maps))
            self.assertEqual(set(table.ranks.values()), {1})
            self.assertIs(is_local(table), True)
            tops = cells_of(space, 2)
            for (face, cell), grid in table.maps.items():
                above = [top for top in tops if set(face) <= set(top)]
                goal = [top for top in tops if set(cell) <= set(top)][0]
                for row in rows_between(above, above[0], goal):
                    turn = 1
                    for one, other in zip(row, row[1:]):
                        turn *= turn_between(one, other)
                    self.assertEqual(grid, (1, ((turn,),)))

    def test_groups(self):
        two = joined(BALL, moved_by(BALL, 4))
        for space, sided, crossed in (
                (BALL, 1, 0), (EIGHT, 1, 0), (RING, 1, 0), (PLANE, 0, 1), (two, 2, 0),
                (joined(PLANE, moved_by(BALL, 7)), 1, 1)):
            self.assertEqual(len(pieces(space)), sided + crossed)
            self.assertEqual(group(rows_of(sides_table(space)), 2), (sided + crossed, ()))
            self.assertEqual(group(rows_of(constant(space, 1)), 2), (sided, (2,) * crossed))
        # With two sides the table becomes a constant one: all groups are those of it.
        for degree in range(3):
            self.assertEqual(
                group(rows_of(sides_table(RING)), degree), group(rows_of(constant(RING, 1)), degree))
        self.assertEqual(sides_table(()), constant((), 1))

    def test_sizes(self):
        # A ball has 6 stretches: five of them come to 30, and so do two planes.
        balls = ()
        for at in range(5):
            balls = joined(balls, moved_by(BALL, 4 * at))
        self.assertEqual(str(sides_table(balls)), "table on 70 cells, sizes 20 30 20")
        self.assertEqual(group(rows_of(sides_table(balls)), 2), (5, ()))
        more = joined(PLANE, joined(RING, ()))
        self.assertIs(is_surface(more), False)
        wide = joined(moved_by(PLANE, 10), joined(moved_by(PLANE, 20), moved_by(BALL, 30)))
        self.assertIs(is_surface(wide), True)
        self.assertEqual(refusal(self, sides_table, (wide,), TooMany).most, 30)
        self.assertEqual(str(sides_table(joined(PLANE, moved_by(PLANE, 10)))), "table on 62 cells, sizes 12 30 20")


class Times(unittest.TestCase):
    # The input of which it was told that it took long.
    LONG = space_of((
        (2, 6, 21), (2, 6, 24), (2, 13, 21), (2, 13, 25), (2, 23, 24), (2, 23, 25), (6, 13, 23), (6, 13, 25),
        (6, 21, 23), (6, 24, 25), (13, 21, 24), (13, 23, 24), (21, 23, 25), (21, 24, 25), (30, 32, 58), (30, 32, 72),
        (30, 58, 72), (32, 58, 72)))

    def test_cells_are_not_sought_for_each_cell(self):
        self.assertEqual((len(self.LONG), is_surface(self.LONG)), (56, True))
        self.assertEqual(str(sides_table(self.LONG)), "table on 56 cells, sizes 11 27 18")
        least = fastest(is_space, self.LONG, calls=10)
        for function, times in ((is_sheet, 6), (is_surface, 15), (sides_answer, 20), (sides_table, 45)):
            self.assertLess(fastest(function, self.LONG, calls=10), times * least, function.__name__)


def rows_between(above, start, goal):
    """Rows of neighbours among these cells from one to another: all that go through none twice."""
    rows, found = [[start]], []
    while rows:
        row = rows.pop()
        if row[-1] == goal:
            found.append(row)
        rows += [row + [other] for other in above if other not in row and turn_between(row[-1], other)]
    assert found
    return found


if __name__ == "__main__":
    unittest.main()
