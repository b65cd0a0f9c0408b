"""Spaces of cells [4.1] to [4.6]."""

import itertools
import random
import unittest

from gluewhole.errors import InvalidCell, InvalidNumber, InvalidOperation, InvalidSpace, TooMany
from gluewhole.space.spaces import (
    MOST_CELLS, MOST_LENGTH, MOST_POINT, border, cells_of, closed_star, common, cone, count, degree_of, faces,
    hang_answer, is_cell, is_open, is_path, is_side, is_space, is_sub, joined, link, parts, pieces, points, skeleton,
    space_of, star, tops)
from tests.helper import (
    FILLED, ODD, ROUND, WRONG_CELLS, WRONG_SPACES, check_judged, check_wrong, closed, refusal, spaces, times)

POINTS = tuple([(point,) for point in range(100)])
EIGHTY = POINTS[:80]
SPACES = tuple(spaces(41, 60)) + (ROUND, FILLED, EIGHTY, ((0,), (99,)), closed([(0, 1, 98, 99)]))
STRAIGHT = closed([(point, point + 1) for point in range(39)])
BALL = closed(list(itertools.combinations(range(5), 4)))


def pieces_of(space):
    """The lots of points that hang together, by joining them until nothing changes."""
    lots = [{cell[0]} for cell in space if len(cell) == 1]
    for one, other in [cell for cell in space if len(cell) == 2]:
        met = [lot for lot in lots if one in lot or other in lot]
        lots = [lot for lot in lots if lot not in met] + [set().union(*met)]
    return sorted([sorted(lot) for lot in lots])


def is_true_path(space, one, other, value):
    """Whether the value is a path, step by step."""
    if type(value) is not tuple or not value or value[0] != one or value[-1] != other:
        return False
    return all([(min(step), max(step)) in space for step in zip(value, value[1:])])


def is_true_side(space, one, other, value):
    """Whether the value is a side, cell by cell."""
    inside = [cell[0] for cell in space if len(cell) == 1]
    if type(value) is not tuple or list(value) != sorted(set(value)) or not set(value) <= set(inside):
        return False
    if one not in value or other in value:
        return False
    return all([len([point for point in cell if point in value]) != 1 for cell in space if len(cell) == 2])


class Examples(unittest.TestCase):
    def test_cells(self):
        self.assertEqual(
            [space_of(((1, 2), (0, 1), (0, 2))) == ROUND, faces((1, 4, 6)), is_space(((0,), (0, 1))), count(ROUND),
             cone(ROUND, 9)[-3:], star(ROUND, (1,))],
            [True, ((1, (4, 6)), (-1, (1, 6)), (1, (1, 4))), False, 0, ((0, 1, 9), (0, 2, 9), (1, 2, 9)),
             ((1,), (0, 1), (1, 2))])

    def test_borders_and_paths(self):
        self.assertEqual(
            [border(ROUND, 1), link(space_of(((0, 1, 2), (1, 2, 3))), (1,)), is_path(ROUND, 0, 2, (0, 1, 2)),
             is_side(joined(ROUND, ((7,),)), 7, 0, (7,))],
            [(3, ((-1, -1, 0), (1, 0, -1), (0, 1, 1))), ((0,), (2,), (3,), (0, 2), (2, 3)), True, True])

    def test_one_that_raises(self):
        self.assertEqual(refusal(self, cells_of, (ROUND, 4), InvalidNumber).given, 4)


class Judges(unittest.TestCase):
    def test_constants(self):
        self.assertEqual((MOST_POINT, MOST_LENGTH, MOST_CELLS), (99, 4, 80))

    def test_cells(self):
        right = ((0,), (99,), (0, 1), (0, 99), (1, 4, 6), (0, 1, 2, 3), (96, 97, 98, 99))
        wrong = ((100,), (0, 100), (-1, 0), (0, 1, 2, 3, 4), (2, 1), (1, 1), (0, 1, 1), (0, 2, 1), [0, 1])
        check_judged(self, is_cell, (), right, wrong + WRONG_CELLS)

    def test_spaces(self):
        check_judged(self, is_space, (), SPACES + (((0,),),), WRONG_SPACES)
        for space in SPACES:
            if len(space) > 1:
                self.assertFalse(is_space(space[::-1]))
                self.assertFalse(is_space(space + space[-1:]))
                self.assertFalse(is_space(list(space)))
            for cell in space:
                rest = tuple([other for other in space if other != cell])
                self.assertEqual(is_space(rest), not any([set(cell) < set(other) for other in rest]))

    def test_eighty_cells(self):
        self.assertTrue(is_space(EIGHTY))
        self.assertFalse(is_space(POINTS[:81]))
        self.assertEqual(len(STRAIGHT), 79)
        self.assertTrue(is_space(closed(STRAIGHT + ((99,),))))
        self.assertFalse(is_space(closed(STRAIGHT + ((98,), (99,)))))

    def test_an_order_that_is_not_that_of_a_space(self):
        self.assertFalse(is_space(((0,), (0, 1), (1,))))
        self.assertFalse(is_space(((0,), (1,), (2,), (1, 2), (0, 1))))


def is_told_space(value):
    """Whether the value is a space, by the words of [0.10]."""
    if not isinstance(value, tuple) or len(value) > 80:
        return False
    for cell in value:
        if not isinstance(cell, tuple) or not 1 <= len(cell) <= 4:
            return False
        if not all([isinstance(point, int) and not isinstance(point, bool) and 0 <= point <= 99 for point in cell]):
            return False
        if list(cell) != sorted(set(cell)):
            return False
    some = [part for cell in value for size in range(1, len(cell)) for part in itertools.combinations(cell, size)]
    return value == tuple(sorted(set(value), key=lambda cell: (len(cell), cell))) and set(some) <= set(value)


def bent_space(space, source):
    """A value that is like a space but for one or two places."""
    cells = list(space)
    for _ in range(source.choice((1, 1, 2))):
        at = source.randrange(len(cells))
        cell, kind = list(cells[at]), source.randrange(8)
        place = source.randrange(len(cell)) if cell else 0
        if kind == 0:
            del cells[at]
        elif kind == 1:
            cells.insert(source.randrange(len(cells) + 1), source.choice(cells))
        elif kind == 2:
            other = source.randrange(len(cells))
            cells[at], cells[other] = cells[other], cells[at]
        elif kind == 3:
            cells[at] = tuple(cell[:place] + cell[place + 1:])
        elif kind == 4:
            cells[at] = tuple(cell[:place] + cell[place:place + 1] + cell[place:])
        elif kind == 5:
            wrong = (True, False, 0, 1, source.randrange(100), 100, -1, 10 ** 12, None, "1", tuple(cell))
            cells[at] = tuple(cell[:place] + [source.choice(wrong)] + cell[place + 1:])
        elif kind == 6:
            cells[at] = source.choice((cell, tuple(cell[::-1]), None, 0, "0", {0: 0}, (), (0, 1, 2, 3, 4)))
        else:
            cells.append(tuple(cell) + (source.randrange(100),))
        if not cells or not all([isinstance(one, tuple) for one in cells]):
            break
    return tuple(cells)


class Bent(unittest.TestCase):
    def test_bent_spaces(self):
        source, kinds = random.Random(20), []
        for space in [some for some in SPACES if some] + spaces(21, 40, 7)[1:] + [closed([(0, 1, 2, 3)])] * 5:
            for _ in range(40):
                value = bent_space(space, source)
                kinds.append(is_space(value))
                self.assertIs(kinds[-1], is_told_space(value), value)
        self.assertGreater(kinds.count(True), 60)
        self.assertGreater(kinds.count(False), 1000)

    def test_each_face_counts(self):
        solid = closed([(3, 5, 7, 9)])
        for cell in solid[:-1]:
            self.assertFalse(is_space(tuple([other for other in solid if other != cell])))
        for at, cell in enumerate(solid):
            for place in range(len(cell)):
                for wrong in (True, False, None, "5", (5,)):
                    other = cell[:place] + (wrong,) + cell[place + 1:]
                    self.assertFalse(is_space(solid[:at] + (other,) + solid[at + 1:]))
        # True counts as 1 by itself: so a space with it would be one, if its kind did not matter.
        ones = closed([(0, 1, 2, 3)])
        for at, cell in enumerate(ones):
            if 1 in cell:
                other = tuple([True if point == 1 else point for point in cell])
                self.assertEqual(ones[:at] + (other,) + ones[at + 1:], ones)
                self.assertFalse(is_space(ones[:at] + (other,) + ones[at + 1:]))


class Cells(unittest.TestCase):
    def test_faces(self):
        self.assertEqual(faces((5,)), ())
        self.assertEqual(faces((0, 99)), ((1, (99,)), (-1, (0,))))
        self.assertEqual(faces((0, 1, 2, 3)), ((1, (1, 2, 3)), (-1, (0, 2, 3)), (1, (0, 1, 3)), (-1, (0, 1, 2))))

    def test_parts(self):
        self.assertEqual(parts((5,)), ((5,),))
        self.assertEqual(parts((0, 99)), ((0,), (99,), (0, 99)))
        for cell in ((1, 4, 6), (0, 1, 2, 3), (2, 50, 98, 99)):
            self.assertEqual(parts(cell), closed([cell]))
        self.assertEqual(len(parts((0, 1, 2, 3))), 15)

    def test_both_ways_have_opposite_signs(self):
        for cell in ((1, 4, 6), (0, 1, 2, 3)):
            for some in itertools.combinations(cell, len(cell) - 2):
                ways = [sign * further for sign, face in faces(cell) for further, end in faces(face) if end == some]
                self.assertEqual(sorted(ways), [-1, 1])

    def test_wrong_arguments(self):
        for function in (faces, parts):
            check_wrong(self, function, ((0, 1),), ("cell",))


class Making(unittest.TestCase):
    def test_least_spaces(self):
        for space in SPACES:
            cells = list(space)
            random.Random(len(cells)).shuffle(cells)
            self.assertEqual(space_of(tuple(cells)), space)
            self.assertEqual(space_of(tops(space)), space)
        self.assertEqual(space_of(()), ())
        self.assertEqual(space_of(((3, 4), (3, 4))), ((3,), (4,), (3, 4)))
        self.assertEqual(space_of(((0, 1, 2, 3),)), parts((0, 1, 2, 3)))

    def test_least_spaces_of_many_cells(self):
        self.assertEqual(space_of(EIGHTY), EIGHTY)
        self.assertEqual(space_of(((0,),) * 80), ((0,),))
        refusal(self, space_of, (((0,),) * 81,), InvalidCell)
        refusal(self, space_of, (POINTS[:81],), InvalidCell)
        over = tuple([(5 * at, 5 * at + 1, 5 * at + 2, 5 * at + 3) for at in range(6)])
        self.assertEqual(refusal(self, space_of, (over,), TooMany).most, 80)
        self.assertEqual(len(space_of(over[:5] + ((99,), (98,), (97,), (96,), (95,)))), 80)
        refusal(self, space_of, (over[:5] + ((99,), (98,), (97,), (96,), (95,), (94,)),), TooMany)
        refusal(self, space_of, (over + ((1, 0),),), InvalidCell)

    def test_wrong_cells(self):
        for wrong in WRONG_CELLS:
            refusal(self, space_of, (((0,), wrong),), InvalidCell)
        for wrong in (None, True, 0, "", [], {}, [(0,)], {(0,): 1}, (0,), ((0,), [1])):
            refusal(self, space_of, (wrong,), InvalidCell)

    def test_joined_and_common(self):
        for one, other in zip(SPACES, SPACES[1:]):
            both = closed(one + other)
            if len(both) <= 80:
                self.assertEqual(joined(one, other), both)
                self.assertEqual(count(one) + count(other), count(both) + count(common(one, other)))
            self.assertEqual(common(one, other), tuple([cell for cell in one if cell in other]))
        self.assertEqual([joined((), ()), common((), ROUND), joined((), ROUND)], [(), (), ROUND])

    def test_joined_ones_that_are_too_great(self):
        self.assertEqual(joined(POINTS[:40], POINTS[40:80]), EIGHTY)
        self.assertEqual(joined(EIGHTY, EIGHTY), EIGHTY)
        self.assertEqual(refusal(self, joined, (POINTS[:40], POINTS[40:81]), TooMany).most, 80)
        for function in (joined, common):
            check_wrong(self, function, (ROUND, FILLED), ("space", "space"))

    def test_cones(self):
        for space in SPACES:
            if (50,) not in space and degree_of(space) < 3 and len(space) < 40:
                told = closed([tuple(sorted(cell + (50,))) for cell in space] + [(50,)])
                self.assertEqual(cone(space, 50), told)
                self.assertEqual(count(told), 1)
        self.assertEqual(cone((), 0), ((0,),))
        self.assertEqual(cone((), 99), ((99,),))
        self.assertEqual(cone(((5,),), 2), ((2,), (5,), (2, 5)))

    def test_cones_that_cannot_be(self):
        check_wrong(self, cone, (ROUND, 9), ("space", "point"))
        refusal(self, cone, (ROUND, 0), InvalidOperation)
        refusal(self, cone, (parts((0, 1, 2, 3)), 3), InvalidOperation)
        self.assertEqual(refusal(self, cone, (parts((0, 1, 2, 3)), 4), TooMany).most, 4)
        self.assertEqual(refusal(self, cone, (closed([(0, 1, 2, 3)] + list(POINTS[4:60])), 99), TooMany).most, 4)
        self.assertEqual(len(cone(POINTS[:39], 99)), 79)
        self.assertEqual(refusal(self, cone, (POINTS[:40], 99), TooMany).most, 80)
        self.assertEqual(refusal(self, cone, (EIGHTY, 99), TooMany).most, 80)


class Told(unittest.TestCase):
    def test_degrees_points_and_cells(self):
        for space in SPACES:
            self.assertEqual(degree_of(space), max([len(cell) for cell in space], default=0) - 1)
            self.assertEqual(points(space), tuple(sorted({point for cell in space for point in cell})))
            for degree in range(4):
                self.assertEqual(cells_of(space, degree), tuple([cell for cell in space if len(cell) == degree + 1]))
                self.assertEqual(skeleton(space, degree), tuple([cell for cell in space if len(cell) <= degree + 1]))
                self.assertTrue(is_sub(space, skeleton(space, degree)))
        self.assertEqual([degree_of(()), points(()), cells_of((), 0), skeleton((), 3)], [-1, (), (), ()])

    def test_tops_and_counts(self):
        for space in SPACES:
            told = [cell for cell in space if not any([set(cell) < set(other) for other in space])]
            self.assertEqual(tops(space), tuple(told))
            self.assertEqual(count(space), sum([(-1) ** (len(cell) - 1) for cell in space]))
        self.assertEqual([tops(()), count(()), count(EIGHTY), count(FILLED), count(BALL)], [(), 0, 80, 1, 0])

    def test_wrong_arguments(self):
        for function in (degree_of, points, tops, count, pieces):
            check_wrong(self, function, (ROUND,), ("space",))
        for function in (cells_of, skeleton):
            check_wrong(self, function, (ROUND, 1), ("space", "0 to 3"))


class Borders(unittest.TestCase):
    def test_signs(self):
        for space in SPACES:
            for degree in (1, 2, 3):
                above, below = cells_of(space, degree), cells_of(space, degree - 1)
                if len(above) <= 60 and len(below) <= 60:
                    told = [[{face: sign for sign, face in faces(cell)}.get(row, 0) for cell in above] for row in below]
                    self.assertEqual(border(space, degree), (len(above), tuple([tuple(row) for row in told])))

    def test_two_borders_come_to_nothing(self):
        for space in SPACES + (BALL,):
            for degree in (1, 2):
                if len(points(space)) <= 60:
                    grid = times(border(space, degree), border(space, degree + 1))
                    self.assertFalse(any([any(row) for row in grid[1]]))

    def test_empty_ones(self):
        self.assertEqual([border((), 1), border(((4,),), 1)], [(0, ()), (0, ((),))])
        self.assertEqual(border(ROUND, 2), (0, ((), (), ())))

    def test_sixty_rows_and_columns(self):
        self.assertEqual(border(POINTS[:60], 1), (0, ((),) * 60))
        self.assertEqual(refusal(self, border, (POINTS[:61], 1), TooMany).most, 60)
        self.assertEqual(border(POINTS[:61], 2), (0, ()))
        self.assertEqual(border(EIGHTY, 3), (0, ()))
        many = closed(list(itertools.combinations(range(12), 2)))
        self.assertEqual(len(many), 78)
        refusal(self, border, (many, 1), TooMany)
        refusal(self, border, (many, 2), TooMany)
        self.assertEqual(border(many, 3), (0, ()))
        self.assertEqual(border(closed(list(itertools.combinations(range(11), 2)) + [(11, 12)]), 1)[0], 56)

    def test_wrong_arguments(self):
        check_wrong(self, border, (ROUND, 1), ("space", "1 to 3"))
        self.assertEqual(refusal(self, border, (EIGHTY, 0), InvalidNumber).given, 0)


class Stars(unittest.TestCase):
    def test_stars_and_links(self):
        for space in SPACES:
            for cell in space[:20]:
                told = tuple([other for other in space if set(cell) <= set(other)])
                self.assertEqual(star(space, cell), told)
                self.assertEqual(closed_star(space, cell), closed(told))
                self.assertTrue(is_open(space, told))
                around = [other for other in space if not set(other) & set(cell)]
                near = [other for other in around if tuple(sorted(other + cell)) in space]
                self.assertEqual(link(space, cell), tuple(near))
                self.assertTrue(is_space(link(space, cell)))

    def test_a_single_point(self):
        space = ((0,), (99,))
        self.assertEqual([star(space, (99,)), closed_star(space, (99,)), link(space, (99,))], [((99,),), ((99,),), ()])

    def test_wrong_arguments(self):
        for function in (star, closed_star, link):
            check_wrong(self, function, (ROUND, (1,)), ("space", "cell of"))
            refusal(self, function, (ROUND, (0, 1, 2)), InvalidCell)
            refusal(self, function, ((), (0,)), InvalidCell)


class Subs(unittest.TestCase):
    def test_sub_spaces(self):
        for space in SPACES[:20]:
            right = ((), space) + tuple([closed([cell]) for cell in space])
            wrong = (space[::-1],) if len(space) > 1 else ()
            check_judged(self, is_sub, (space,), right, wrong + (((77,),), closed([(70, 71)])), ODD + WRONG_SPACES)

    def test_open_lots(self):
        for space in SPACES[:20]:
            right = ((), space) + tuple([star(space, cell) for cell in space])
            wrong = (space[::-1],) if len(space) > 1 else ()
            check_judged(self, is_open, (space,), right, wrong + (((77,),),), ODD)
        check_judged(self, is_open, (FILLED,), ((), ((0, 1, 2),), ((0, 1), (0, 1, 2)), FILLED[3:], FILLED[1:]), (
            ((0, 1),), FILLED[:6], [(0, 1, 2)], ((0, 1, 2), (0, 1)), ((0, 1), (0, 1), (0, 1, 2)), ((0, 1, 3),),
            ((False, 1, 2),), ((0, True, 2),)))

    def test_subs_and_open_lots_are_complements(self):
        for space in (ROUND, FILLED):
            for size in range(len(space) + 1):
                for some in itertools.combinations(space, size):
                    rest = tuple([cell for cell in space if cell not in some])
                    self.assertEqual(is_sub(space, some), is_open(space, rest))

    def test_wrong_arguments(self):
        for function in (is_sub, is_open):
            check_wrong(self, function, (ROUND, ()), ("space", None))

    def test_true_is_not_one(self):
        self.assertFalse(is_sub(EIGHTY, ((True,),)))
        self.assertFalse(is_open(EIGHTY, ((True,),)))
        self.assertTrue(is_open(EIGHTY, ((1,),)))


class Hanging(unittest.TestCase):
    def test_answers(self):
        words = {}
        for space in SPACES + (STRAIGHT,):
            for one, other in itertools.product(points(space)[:6] + points(space)[-1:], repeat=2):
                word, value = hang_answer(space, one, other)
                words[word] = True
                self.assertEqual(is_path(space, one, other, value), word == "path")
                self.assertEqual(is_side(space, one, other, value), word == "side")
                right = is_true_path if word == "path" else is_true_side
                self.assertTrue(right(space, one, other, value))
        self.assertEqual(sorted(words), ["path", "side"])

    def test_a_point_and_itself(self):
        self.assertEqual(hang_answer(((3,),), 3, 3)[0], "path")
        check_judged(self, is_path, (((3,), (4,)), 3, 3), ((3,),), ((3, 3), (4,), (3, 4, 3), (), [3]))
        check_judged(self, is_side, (((3,), (4,)), 3, 3), (), ((3,), (3, 4), ()))

    def test_paths(self):
        right = ((0, 1), (0, 2, 1), (0, 1, 0, 1), (0, 1, 2, 0, 2, 1))
        wrong = (
            (0,), (1,), (1, 0), (0, 0, 1), (0, 1, 1), (0, 2), (0, 3, 1), [0, 1], (0, 1, 2), (2, 1), (False, 1),
            (0, True), (0, None, 1), (0, (1,), 1), ((0, 1),))
        check_judged(self, is_path, (ROUND, 0, 1), right, wrong)
        self.assertTrue(is_path(STRAIGHT, 39, 0, tuple(range(39, -1, -1))))
        self.assertTrue(is_path(ROUND, 0, 1, (0, 1) * 500))
        self.assertFalse(is_path(ROUND, 0, 1, (0, 100, 1)))

    def test_sides(self):
        space = closed([(0, 1), (2, 3), (4,), (5, 6, 7)])
        right = ((0, 1), (0, 1, 2, 3), (0, 1, 4), (0, 1, 2, 3, 4))
        wrong = ((0,), (1, 0), (0, 1, 5), (0, 1, 5, 6, 7), (2, 3), (), [0, 1], (0, 0, 1), (0, 1, 8), (0, 1, 99),
                 (False, 1), (0, True), (0, 1, None), (0, 1, (4,)))
        check_judged(self, is_side, (space, 0, 5), right, wrong)
        check_judged(self, is_side, (ROUND, 0, 1), (), ((0,), (0, 2), (0, 1, 2)))

    def test_by_counting(self):
        space = closed([(0, 1), (1, 2), (3, 4), (5,)])
        for size in range(7):
            for value in itertools.combinations(range(7), size):
                self.assertEqual(is_side(space, 3, 0, value), is_true_side(space, 3, 0, value))
        for size in range(5):
            for value in itertools.product(range(7), repeat=size):
                self.assertEqual(is_path(space, 0, 2, value), is_true_path(space, 0, 2, value))

    def test_wrong_arguments(self):
        check_wrong(self, hang_answer, (ROUND, 0, 1), ("space", "point of", "point of"))
        for function in (is_path, is_side):
            check_wrong(self, function, (ROUND, 0, 1, (0, 1)), ("space", "point of", "point of", None))
        self.assertEqual(refusal(self, hang_answer, (ROUND, 3, 4), InvalidNumber).given, 3)
        self.assertEqual(refusal(self, hang_answer, ((), 0, 0), InvalidNumber).given, 0)

    def test_pieces(self):
        for space in SPACES + (STRAIGHT,):
            found = pieces(space)
            self.assertEqual([list(points(piece)) for piece in found], pieces_of(space))
            for piece in found:
                inside = set(points(piece))
                self.assertEqual(piece, tuple([cell for cell in space if set(cell) <= inside]))
            self.assertEqual(sum([len(piece) for piece in found]), len(space))
        self.assertEqual(pieces(()), ())
        self.assertEqual(pieces(closed([(1, 9), (0, 5)])), (closed([(0, 5)]), closed([(1, 9)])))
        self.assertEqual(len(pieces(EIGHTY)), 80)


class NotTrue(unittest.TestCase):
    def test_what_is_not_true(self):
        self.assertFalse(is_open(FILLED, ((0, 1),)))
        self.assertFalse(is_sub(FILLED, ((0, 1),)))
        self.assertFalse(all([cell in star(FILLED, (0,)) for cell in link(FILLED, (0,))]))
        self.assertTrue(is_path(ROUND, 0, 1, (0, 1, 0, 1)))

    def test_spaces_are_checked_first(self):
        refusal(self, cells_of, (((0, 1),), 9), InvalidSpace)


if __name__ == "__main__":
    unittest.main()
