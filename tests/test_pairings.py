"""Pairings of bare rows, and lesser rows [14.1] to [14.6]."""

import random
import unittest

from gluewhole.errors import InvalidNumber, InvalidOperation, InvalidRows, InvalidTelling
from gluewhole.keep.pairings import (
    all_pairings, are_all_pairings, are_pairings, is_kept, kept, kept_made, kept_on, lesser)
from gluewhole.rows.maps import is_rows_map, led, led_group, one_to_one_answer, onto_answer
from gluewhole.tables.groups import Makers, Rows, group, is_still_row, rise_of, rows_of, telling_answer
from gluewhole.tables.tables import constant
from tests.helper import (
    FILLED, LESS, ODD, ONE, ROUND, TWIST, TWO, WRONG, WRONG_INTEGERS, check_judged, check_wrong, closed, holds,
    is_zero, known_rows, lesser_holds, moved, nought, random_tables, refusal, rows_of_blocks, some_row, spaces, times,
    undone_pair, unit, weighted)

PLAIN, FIRST = rows_of(constant(ROUND, 1)), ((0, 0, 0),)
THERE, BACK, STEPS = kept(PLAIN, FIRST)
HALF = Rows((1, 1), (TWO,))
LONG = 10 ** 30
ALL = [rows for rows, _ in known_rows(141, 40)] + [rows_of(table) for table in random_tables(142, 20)] + [
    rows_of_blocks([(0, 2), (0, 4), (1, 6), (1, 1), (0, 1), (2, 1), (2, 0), (2, -1)], 5, random.Random(143))[0],
    rows_of(constant(closed([(0, 1, 2, 3)]), 1)), PLAIN, HALF, Rows((0,), ()), Rows((30,), ())] + [
    rows_of(weighted(space, random.Random(at))) for at, space in enumerate(spaces(146, 20, 6))]


def all_units(rows):
    """All pairings of the rows."""
    return [
        (degree, column, row) for degree, grid in enumerate(rows.grids) for row, line in enumerate(grid[1])
        for column, number in enumerate(line) if number in (1, -1)]


def told_lesser(rows, pairing):
    """The lesser rows of one pairing, by the words of [14.1]."""
    degree, column, row = pairing
    grids = [[list(line) for line in grid[1]] for grid in rows.grids]
    step = grids[degree][row]
    unit_there = step[column]
    for line in grids[degree]:
        if line is not step:
            number = line[column]
            for at in range(len(line)):
                line[at] = line[at] - number * unit_there * step[at]
    del grids[degree][row]
    for line in grids[degree]:
        del line[column]
    if degree > 0:
        del grids[degree - 1][column]
    if degree + 1 < len(grids):
        for line in grids[degree + 1]:
            del line[row]
    sizes = list(rows.sizes)
    sizes[degree] -= 1
    sizes[degree + 1] -= 1
    return Rows(tuple(sizes), tuple([
        (size, tuple([tuple(line) for line in grid])) for size, grid in zip(sizes, grids)]))


def told_there(rows, pairing, degree, telling):
    """What a telling is led to there by one pairing, by the words of [14.2]."""
    at, column, row = pairing
    grid = rows.grids[at][1]
    if degree == at:
        return telling[:column] + telling[column + 1:]
    if degree == at + 1:
        out = telling[row] * grid[row][column]
        found = [number - grid[place][column] * out for place, number in enumerate(telling)]
        return tuple(found[:row] + found[row + 1:])
    return telling


def told_back(rows, pairing, degree, telling):
    """What a telling is led back to by one pairing."""
    at, column, row = pairing
    grid = rows.grids[at][1]
    if degree == at:
        others = grid[row][:column] + grid[row][column + 1:]
        number = -grid[row][column] * sum([a * b for a, b in zip(telling, others)])
        return telling[:column] + (number,) + telling[column:]
    if degree == at + 1:
        return telling[:row] + (0,) + telling[row:]
    return telling


def random_pairings(rows, source, most=9):
    """Some pairings, each one of what those ahead leave, and the rows that they leave, one by one."""
    found, left = [], [rows]
    while all_units(left[-1]) and len(found) < most:
        found.append(source.choice(all_units(left[-1])))
        left.append(told_lesser(left[-1], found[-1]))
    return tuple(found), left


class Examples(unittest.TestCase):
    def test_lesser_rows(self):
        self.assertEqual(
            [lesser(PLAIN, FIRST).grids, lesser(PLAIN, FIRST * 2).grids, lesser(PLAIN, all_pairings(PLAIN)).sizes],
            [((2, ((-1, 1), (-1, 1))),), ((1, ((0,),)),), (1, 1)])

    def test_there_back_and_steps(self):
        self.assertEqual(
            [THERE, BACK, STEPS],
            [((3, ((0, 1, 0), (0, 0, 1))), (3, ((-1, 1, 0), (0, 0, 1)))),
             ((2, ((1, 0), (1, 0), (0, 1))), (2, ((0, 0), (1, 0), (0, 1)))),
             ((3, ((-1, 0, 0), (0, 0, 0), (0, 0, 0))),)])

    def test_judging(self):
        self.assertEqual(
            [are_pairings(PLAIN, ((0, 0, 2),)), are_all_pairings(PLAIN, FIRST),
             is_kept(PLAIN, lesser(PLAIN, FIRST), (THERE, BACK, STEPS)),
             kept_made(PLAIN, lesser(PLAIN, FIRST), (THERE, BACK, STEPS), 1, (2, 4, 2), (0, 2))],
            [False, False, True, (-2, 0, 2)])

    def test_one_that_raises(self):
        refusal(self, lesser, (PLAIN, ((0, 0, 2),)), InvalidOperation)


class Pairings(unittest.TestCase):
    def test_lesser_rows(self):
        source, many = random.Random(1), 0
        for rows in ALL:
            found, left = random_pairings(rows, source)
            for length in range(len(found) + 1):
                self.assertIs(are_pairings(rows, found[:length]), True)
                self.assertEqual(lesser(rows, found[:length]), left[length])
            many += len(found)
        self.assertGreater(many, 100)

    def test_all_units(self):
        for rows in ALL[:25]:
            units = all_units(rows)
            for degree in range(-1, len(rows) + 1):
                for column in range(-1, 5):
                    for row in range(-1, 5):
                        told = (degree, column, row) in units
                        self.assertIs(are_pairings(rows, ((degree, column, row),)), told)

    def test_places_in_what_is_left(self):
        # [14.6]: pairings that stand apart cannot be taken out with the places that they had.
        rows = Rows((2, 2), ((2, ((1, 0), (0, 1))),))
        self.assertIs(are_pairings(rows, ((0, 0, 0), (0, 1, 1))), False)
        self.assertIs(are_pairings(rows, ((0, 0, 0), (0, 0, 0))), True)
        self.assertIs(are_pairings(rows, ((0, 1, 1), (0, 0, 0))), True)
        check_judged(
            self, are_pairings, (rows,), [(), ((0, 0, 0),), ((0, 1, 1),), ((0, 0, 0), (0, 0, 0))],
            [((0, 0, 1),), ((0, 0, 0), (0, 1, 1)), ((0, 0, 0),) * 3, ((False, 0, 0),), ((0, False, 0),),
             ((0, 0, True),), ((0, 0),), ((0, 0, 0, 0),), ([0, 0, 0],), [(0, 0, 0)], (0, 0, 0), ((1, 0, 0),),
             ((-1, 0, 0),), ((0, -1, 0),), ((0, 0, -1),), ((0, 2, 0),), ((None, 0, 0),), ((0, 0, 0), None)])
        check_judged(self, are_pairings, (Rows((1,), ()),), [()], [((0, 0, 0),)])
        check_judged(self, are_pairings, (HALF,), [()], [((0, 0, 0),)])
        long = Rows((2, 1), ((2, ((LONG, -1),)),))
        check_judged(self, are_pairings, (long,), [(), ((0, 1, 0),)], [((0, 0, 0),)])
        square = Rows((2, 2), ((2, ((LONG, 1), (LONG * LONG, LONG))),))
        self.assertEqual(lesser(square, ((0, 1, 0),)).grids[0][1], ((0,),))

    def test_all_pairings(self):
        source, left_over = random.Random(2), []
        for rows in ALL:
            found = all_pairings(rows)
            self.assertIs(are_pairings(rows, found), True)
            self.assertIs(are_all_pairings(rows, found), True)
            rest = lesser(rows, found)
            self.assertEqual(all_units(rest), [])
            if found:
                self.assertIs(are_all_pairings(rows, found[:-1]), False)
            self.assertIs(are_all_pairings(rows, list(found)), False)
            other, left = random_pairings(rows, source, 99)
            self.assertIs(are_all_pairings(rows, other), True)
            left_over.append((rest.sizes, left[-1].sizes))
        check_judged(
            self, are_all_pairings, (PLAIN,), [all_pairings(PLAIN), FIRST * 2], [(), FIRST, FIRST * 3, list(FIRST * 2)])
        check_judged(self, are_all_pairings, (HALF,), [()], [((0, 0, 0),)])
        # [14.6]: rows without units have not the same sizes, whatever pairings were taken out.
        rows = Rows((2, 3), ((2, ((1, 2), (2, 9), (3, 9))),))
        self.assertEqual(lesser(rows, ((0, 0, 0),)).grids[0], (1, ((5,), (3,))))
        # 2 and 3 beside one another are no units: more is left than the ranks tell.
        self.assertEqual(all_pairings(Rows((2, 1), ((2, ((2, 3),)),))), ())

    def test_wrong_ones(self):
        WRONG["pairings"] = (InvalidOperation, (
            None, True, 0, "", [], {}, (0, 0, 0), ((0, 0, 2),), ((0, 0, 0), (0, 1, 1), (0, 0, 0)), ((0, 0),),
            [(0, 0, 0)], ((True, 0, 0),), TWIST))
        for function in (lesser, kept):
            check_wrong(self, function, (PLAIN, FIRST), ("rows", "pairings"))
        for function in (are_pairings, are_all_pairings):
            check_wrong(self, function, (PLAIN, None), ("rows", None))
        check_wrong(self, all_pairings, (PLAIN,), ("rows",))


class Kept(unittest.TestCase):
    def test_one_pairing(self):
        source = random.Random(3)
        for rows in ALL:
            for pairing in source.sample(all_units(rows), min(3, len(all_units(rows)))):
                other = told_lesser(rows, pairing)
                there, back, steps = kept(rows, (pairing,))
                degree, column, row = pairing
                for at in range(len(rows)):
                    telling = some_row(rows.sizes[at], source)
                    self.assertEqual(moved(there[at], telling), told_there(rows, pairing, at, telling))
                    telling = some_row(other.sizes[at], source)
                    self.assertEqual(moved(back[at], telling), told_back(rows, pairing, at, telling))
                number = rows.grids[degree][1][row][column]
                for at in range(len(rows) - 1):
                    wanted = [[0] * rows.sizes[at + 1] for _ in range(rows.sizes[at])]
                    if at == degree:
                        wanted[column][row] = number
                    self.assertEqual(steps[at], (rows.sizes[at + 1], tuple([tuple(line) for line in wanted])))

    def test_papers(self):
        source = random.Random(4)
        for rows in ALL:
            found, left = random_pairings(rows, source)
            for length in sorted({0, 1, len(found) // 2, len(found)}):
                if length <= len(found):
                    other, triple = left[length], kept(rows, found[:length])
                    self.assertTrue(holds(("lesser", rows.sizes, rows.grids, other.sizes, other.grids), triple))
                    self.assertIs(is_kept(rows, other, triple), True)
                    self.assertIs(is_rows_map(rows, other, triple[0]), True)
                    self.assertIs(is_rows_map(other, rows, triple[1]), True)
        there, back, steps = kept(HALF, ())
        self.assertEqual((there, back, steps), ((ONE, ONE), (ONE, ONE), (nought(1, 1),)))
        self.assertEqual(kept(Rows((0,), ()), ()), (((0, ()),), ((0, ()),), ()))

    def test_one_behind_the_other(self):
        source = random.Random(5)
        for rows in ALL:
            found, left = random_pairings(rows, source, 4)
            for length in range(len(found) + 1):
                first, last = kept(rows, found[:length]), kept(left[length], found[length:])
                self.assertEqual(kept_on(rows, left[length], left[-1], first, last), kept(rows, found))

    def test_groups_are_kept(self):
        source, divisors = random.Random(6), 0
        for rows in ALL:
            found = all_pairings(rows)
            other, (there, back, steps) = lesser(rows, found), kept(rows, found)
            for degree in range(len(rows)):
                self.assertEqual(group(rows, degree), group(other, degree))
                divisors += len(group(rows, degree)[1])
                self.assertEqual(one_to_one_answer(rows, other, there, degree)[0][0], "one to one")
                self.assertEqual(onto_answer(rows, other, there, degree)[0][0], "onto")
                self.assertEqual(one_to_one_answer(other, rows, back, degree)[0][0], "one to one")
                self.assertEqual(onto_answer(other, rows, back, degree)[0][0], "onto")
                makers = Makers(rows, degree)
                ahead, behind = led_group(rows, other, there, degree), led_group(other, rows, back, degree)
                for maker in makers.makers:
                    told = makers.coordinates(maker)
                    round_trip = moved(behind, moved(ahead, told))
                    moduli = [m for m, _ in makers.readings]
                    self.assertTrue(all([is_zero(a - b, m) for a, b, m in zip(told, round_trip, moduli)]))
                    image = led(rows, other, there, degree, maker)
                    self.assertTrue(is_still_row(other, degree, image))
                    for number in (1, 2, 3):
                        one, two = [tuple([number * n for n in row]) for row in (maker, image)]
                        kinds = telling_answer(rows, degree, one)[0][0], telling_answer(other, degree, two)[0][0]
                        self.assertEqual(kinds[0], kinds[1])
        self.assertGreater(divisors, 20)

    def test_judging(self):
        other = lesser(PLAIN, FIRST)
        check_judged(
            self, is_kept, (PLAIN, other), [(THERE, BACK, STEPS)],
            [(THERE, BACK), [THERE, BACK, STEPS], (THERE, BACK, STEPS, ()), (BACK, THERE, STEPS), (THERE, BACK, ()),
             (THERE, BACK, (nought(3, 3),)), (THERE, BACK, list(STEPS)), (list(THERE), BACK, STEPS),
             (THERE, BACK, None),
             (THERE, BACK, (STEPS[0], STEPS[0])), (THERE, BACK, (unit(3),)), (None, BACK, STEPS), (THERE, None, STEPS),
             (THERE, BACK, ((3, ((-1, 0, 0), (0, False, 0), (0, 0, 0))),)), (THERE, BACK, ((3, ((-1, 0, 0),) * 2),))])
        check_judged(
            self, is_kept, (PLAIN, PLAIN), [((unit(3), unit(3)), (unit(3), unit(3)), (nought(3, 3),))],
            [((unit(3), unit(3)), (unit(3), unit(3)), STEPS)])
        # Steps are not told by there and back alone: here a multiple of what leads noughts to noughts is added.
        zero = Rows((1, 1), (nought(1, 1),))
        check_judged(
            self, is_kept, (zero, zero),
            [((ONE, ONE), (ONE, ONE), (TWO,)), ((LESS, ONE), (LESS, ONE), ((1, ((LONG,),)),))],
            [((LESS, ONE), (ONE, ONE), (TWO,)), ((TWO, ONE), (ONE, ONE), (TWO,)), ((TWO, ONE), (TWO, ONE), (TWO,)),
             ((nought(1, 1), ONE), (nought(1, 1), ONE), (TWO,))])
        # There and back that undo one another both ways, but no maps of rows.
        check_judged(self, is_kept, (HALF, HALF), [((ONE, ONE), (ONE, ONE), (nought(1, 1),)), (
            (LESS, LESS), (LESS, LESS), (nought(1, 1),))], [((LESS, ONE), (LESS, ONE), (nought(1, 1),))])
        none, away, out = Rows((0, 0), ((0, ()),)), ((1, ()), (1, ())), ((0, ((),)), (0, ((),)))
        check_judged(
            self, is_kept, (Rows((1, 1), (ONE,)), none), [(away, out, (ONE,))],
            [(away, out, (TWO,)), (away, out, ())])
        check_judged(self, is_kept, (HALF, none), [], [(away, out, (ONE,))])
        # There behind back has to give the unit, not the other way round alone.
        check_judged(self, is_kept, (none, zero), [], [(out, away, ((0, ()),))])

    def test_near_ones(self):
        source, wrong = random.Random(7), 0
        for rows in ALL[:40]:
            found, left = random_pairings(rows, source, 3)
            other, triple = left[-1], kept(rows, found)
            for which in range(3):
                for degree, (width, lines) in enumerate(triple[which]):
                    if width and lines:
                        row, column = source.randrange(len(lines)), source.randrange(width)
                        line = lines[row][:column] + (lines[row][column] + 1,) + lines[row][column + 1:]
                        grid = width, lines[:row] + (line,) + lines[row + 1:]
                        part = triple[which][:degree] + (grid,) + triple[which][degree + 1:]
                        near = triple[:which] + (part,) + triple[which + 1:]
                        told = lesser_holds(rows.sizes, rows.grids, other.sizes, other.grids, near)
                        self.assertIs(is_kept(rows, other, near), told)
                        wrong += not told
        self.assertGreater(wrong, 60)

    def test_turned_ones(self):
        # Grids that undo one another lead there and back without any steps.
        source = random.Random(8)
        for rows, _ in known_rows(144, 15):
            turns = [undone_pair(size, source) for size in rows.sizes]
            grids = tuple([times(times(turns[d + 1][0], grid), turns[d][1]) for d, grid in enumerate(rows.grids)])
            other = Rows(rows.sizes, grids)
            steps = tuple([nought(low, high) for low, high in zip(rows.sizes, rows.sizes[1:])])
            triple = tuple([turn for turn, _ in turns]), tuple([turn for _, turn in turns]), steps
            self.assertIs(is_kept(rows, other, triple), True)
            found = all_pairings(other)
            both = kept_on(rows, other, lesser(other, found), triple, kept(other, found))
            self.assertIs(is_kept(rows, lesser(other, found), both), True)

    def test_greatest_sizes(self):
        source = random.Random(145)
        rows, groups = rows_of_blocks(
            [(degree, number) for degree in range(4) for number in (1, 1, 1, -1, 1, 2, 4, 1, 1, 0)] + [(4, 0)] * 3, 5,
            source, 50)
        self.assertEqual(rows.sizes, (10, 19, 19, 19, 12))
        found = all_pairings(rows)
        other, triple = lesser(rows, found), kept(rows, found)
        self.assertTrue(lesser_holds(rows.sizes, rows.grids, other.sizes, other.grids, triple))
        self.assertEqual(tuple([group(other, degree) for degree in range(5)]), groups)


class Made(unittest.TestCase):
    def test_made_ones(self):
        source, many = random.Random(9), 0
        for rows in ALL:
            found = all_pairings(rows)
            other, triple = lesser(rows, found), kept(rows, found)
            for degree in range(len(rows)):
                if degree == 0:
                    self.assertEqual(kept_made(rows, other, triple, 0, (0,) * rows.sizes[0], ()), ())
                    continue
                telling = rise_of(rows, degree - 1, some_row(rows.sizes[degree - 1], source))
                claim, maker = telling_answer(other, degree, moved(triple[0][degree], telling))
                self.assertEqual(claim[0], "made")
                value = kept_made(rows, other, triple, degree, telling, maker)
                self.assertEqual(rise_of(rows, degree - 1, value), telling)
                back, step = moved(triple[1][degree - 1], maker), moved(triple[2][degree - 1], telling)
                self.assertEqual(value, tuple([a + b for a, b in zip(back, step)]))
                many += 1
                if maker and any([line[0] for line in other.grid(degree - 1)[1]]):
                    worse = (maker[0] + 1,) + maker[1:]
                    refusal(self, kept_made, (rows, other, triple, degree, telling, worse), InvalidOperation)
        self.assertGreater(many, 60)
        big = Rows((2, 1), ((2, ((1, LONG),)),))
        triple = kept(big, ((0, 0, 0),))
        self.assertEqual(kept_made(big, lesser(big, ((0, 0, 0),)), triple, 1, (LONG,), (7,)), (LONG - 7 * LONG, 7))

    def test_wrong_ones(self):
        other = lesser(PLAIN, FIRST)
        good = (PLAIN, other, (THERE, BACK, STEPS), 1, (2, 4, 2), (0, 2))
        WRONG["triple"] = (InvalidOperation, (
            None, True, 0, "", (), [], {}, (THERE, BACK), [THERE, BACK, STEPS], (BACK, THERE, STEPS), (THERE, BACK, ()),
            TWIST))
        WRONG["three"] = (InvalidTelling, WRONG["long telling"][1] + ((), (1, 2), (1, 2, 3, 4)))
        WRONG["two"] = (InvalidTelling, WRONG["long telling"][1] + ((), (1,), (1, 2, 3), [0, 2]))
        check_wrong(self, kept_made, good, ("rows", "rows", "triple", "degree 1", "three", "two"))
        for maker in (None, [], (0,), (0, 2), 0, {}, False):
            refusal(self, kept_made, (PLAIN, other, (THERE, BACK, STEPS), 0, (0, 0, 0), maker), InvalidTelling)
        refusal(self, kept_made, (PLAIN, other, (THERE, BACK, STEPS), 0, (1, 2, 3), ()), InvalidOperation)
        refusal(self, kept_made, (PLAIN, other, (THERE, BACK, STEPS), 0, (1, 1, 1), ()), InvalidOperation)
        # What is not still can be led to what is made.
        self.assertEqual(moved(THERE[0], (1, 0, 0)), (0, 0))
        refusal(self, kept_made, (PLAIN, other, (THERE, BACK, STEPS), 0, (1, 0, 0), ()), InvalidOperation)
        refusal(self, kept_made, (PLAIN, other, (THERE, BACK, STEPS), 1, (2, 4, 2), (0, 3)), InvalidOperation)
        filled = rows_of(constant(FILLED, 1))
        same = kept(filled, ())
        refusal(self, kept_made, (filled, filled, same, 1, (1, 0, 0), (0, 0, 0)), InvalidOperation)
        # An unlike number of degrees comes ahead of what is not looked at any more.
        refusal(self, kept_made, (PLAIN, filled, None, None, None, None), InvalidOperation)
        refusal(self, kept_made, (PLAIN, None, None, None, None, None), InvalidRows)
        for wrong in WRONG_INTEGERS:
            caught = refusal(self, kept_made, (PLAIN, other, (THERE, BACK, STEPS), wrong, None, None), InvalidNumber)
            self.assertIs(caught.given, wrong)

    def test_wrong_rows(self):
        filled = rows_of(constant(FILLED, 1))
        check_wrong(self, is_kept, (PLAIN, PLAIN, None), ("rows", "rows", None))
        refusal(self, is_kept, (PLAIN, filled, None), InvalidOperation)
        other = lesser(PLAIN, FIRST)
        triple, same = (THERE, BACK, STEPS), kept(other, ())
        WRONG["triple"] = (InvalidOperation, (None, True, 0, "", (), [], {}, (BACK, THERE, STEPS), TWIST))
        check_wrong(
            self, kept_on, (PLAIN, other, other, triple, same), ("rows", "rows", "rows", "triple", "triple"))
        for some in ((filled, PLAIN, PLAIN), (PLAIN, filled, PLAIN), (PLAIN, PLAIN, filled)):
            refusal(self, kept_on, some + (None, None), InvalidOperation)
        refusal(self, kept_on, (PLAIN, filled, None, None, None), InvalidRows)
        refusal(self, kept_on, (PLAIN, other, other, same, triple), InvalidOperation)
        for value in ODD:
            is_kept(PLAIN, other, value)
            are_pairings(PLAIN, value)


if __name__ == "__main__":
    unittest.main()
