"""Readings of bare rows [10.1] to [10.9]."""

import fractions
import itertools
import math
import random
import unittest

from gluewhole.base.made import plain_kernel
from gluewhole.errors import InvalidNumber, InvalidOperation, InvalidRow, InvalidRows, InvalidTelling
from gluewhole.tables.groups import Rows, group, is_still_row, rise_of, rows_of, telling_answer
from gluewhole.tables.readings import (
    fall, fallen_answer, is_pairing, is_quiet, link, linked_telling, pairing, quiet_classes, reading_group, row_order,
    turned_rows)
from gluewhole.tables.tables import constant
from tests.helper import (
    ODD, ONE, ROUND, TWIST, TWO, WRONG, WRONG_INTEGERS, bars, check_judged, check_wrong, holds, is_zero, known_rows,
    moved, nought, product_sum, random_tables, read, refusal, rows_of_blocks, some_row, transposed, unit)

HALF, APART = Rows((1, 1), (TWO,)), Rows((2, 1), ((2, ((1, -1),)),))
PLAIN, BENT = rows_of(constant(ROUND, 1)), rows_of(TWIST)
LONG = 10 ** 30
WIDE = Rows((2, 2), ((2, ((LONG, 3 * LONG), (0, 2 * LONG))),))
KNOWN = known_rows(101, 50)
# Numbers from 2 to 12 between the degrees, and single places, turned by undone grids.
BLOCKS = [rows_of_blocks(
    [(0, 2), (0, 4), (0, 0), (1, 6), (1, 0), (1, 12), (0, 1), (2, 0), (2, 3)], 4, random.Random(seed))
    for seed in range(4)]
ALL = [rows for rows, _ in KNOWN + BLOCKS] + [rows_of(table) for table in random_tables(102, 15)]
WRONG["reading row"] = (InvalidRow, WRONG["row"][1] + ((1,), (1, 2), (1, 2, 3, 4), (10 ** 12, 0, 0)))
WRONG["one row"] = (InvalidRow, WRONG["row"][1] + ((), (1, 2), (10 ** 12,)))
WRONG["one telling"] = (InvalidTelling, WRONG["long telling"][1] + ((), (1, 2)))
WRONG["only 0"] = (InvalidNumber, WRONG_INTEGERS + (-1, 1, 2))


def pairs(many):
    """Bare rows with each of their degrees."""
    return [(rows, degree) for rows in many for degree in range(len(rows))]


def quiet_rows(rows, degree, source, many=3):
    """A few quiet rows of a degree, fallen ones among them."""
    base = transposed(plain_kernel(transposed(rows.grid(degree - 1))))[1]
    size = rows.sizes[degree]
    found = [(0,) * size]
    for _ in range(many):
        row = (0,) * size
        for one in base:
            number = source.randint(-2, 2)
            row = tuple([a + number * b for a, b in zip(row, one)])
        found.append(row)
    high = rows.grid(degree)
    found.append(read(some_row(len(high[1]), source, 3), high))
    return found


def still_tellings(rows, degree, source, many=3):
    """A few still tellings of a degree, made ones among them."""
    base = transposed(plain_kernel(rows.grid(degree)))[1]
    found = []
    for _ in range(many):
        row = (0,) * rows.sizes[degree]
        for one in base:
            number = source.randint(-2, 2)
            row = tuple([a + number * b for a, b in zip(row, one)])
        found.append(row)
    low = rows.grid(degree - 1)
    return found + [moved(low, some_row(low[0], source, 3))]


def multiple(row, number):
    """The row times an integer."""
    return tuple([number * item for item in row])


class Examples(unittest.TestCase):
    def test_falls(self):
        self.assertEqual(
            [turned_rows(APART).sizes, fall(APART, 1, (3,)), fall(APART, 0, (3, 4)), is_quiet(HALF, 1, (2, (1,))),
             is_quiet(HALF, 1, (0, (1,)))],
            [(1, 2), (3, -3), (), True, False])

    def test_groups_and_orders(self):
        self.assertEqual(
            [reading_group(HALF, 0), reading_group(HALF, 1), row_order(HALF, 0, (1,)), row_order(APART, 0, (1, 0))],
            [(0, (2,)), (0, ()), 2, None])

    def test_fallen_ones_and_pairings(self):
        self.assertEqual(
            [fallen_answer(HALF, 0, (6,)), fallen_answer(HALF, 0, (3,))[0][0],
             is_pairing(APART, 0, (((1, 1),), ((1, 0),))), is_pairing(APART, 0, (((2, 2),), ((1, 0),)))],
            [(("made", (1, ((2,),)), (6,)), (3,)), "barred", True, False])

    def test_links(self):
        self.assertEqual(
            [link(HALF, 0, (1,), (1,)), link(HALF, 0, (2,), (1,)), linked_telling(HALF, 0, (4,)),
             quiet_classes(HALF, 1, 4), quiet_classes(APART, 0, 3)],
            [(1, 2), (0, 1), None, 2, 3])

    def test_one_that_raises(self):
        refusal(self, link, (APART, 0, (1, 0), (1,)), InvalidOperation)


class Turned(unittest.TestCase):
    def test_turned_rows(self):
        for rows in ALL:
            turned = turned_rows(rows)
            most = len(rows) - 1
            self.assertEqual(turned.sizes, rows.sizes[::-1])
            for degree in range(-1, most + 1):
                self.assertEqual(turned.grid(most - 1 - degree), transposed(rows.grid(degree)))
            self.assertEqual(turned_rows(turned), rows)
        check_wrong(self, turned_rows, (PLAIN,), ("rows",))

    def test_falls_are_their_rises(self):
        source = random.Random(1)
        for rows, degree in pairs(ALL):
            turned, most = turned_rows(rows), len(rows) - 1
            row = some_row(rows.sizes[degree], source)
            self.assertEqual(fall(rows, degree, row), rise_of(turned, most - degree, row))
            for row in quiet_rows(rows, degree, source):
                self.assertIs(is_quiet(rows, degree, (0, row)), True)
                self.assertIs(is_still_row(turned, most - degree, row), True)
                fallen = fallen_answer(rows, degree, row)[0][0]
                self.assertEqual(fallen, telling_answer(turned, most - degree, row)[0][0])


class Falls(unittest.TestCase):
    def test_values(self):
        source = random.Random(2)
        for rows, degree in pairs(ALL):
            row = some_row(rows.sizes[degree], source)
            found = fall(rows, degree, row)
            self.assertEqual(found, read(row, rows.grid(degree - 1)))
            if degree == 0:
                self.assertEqual(found, ())
                continue
            telling = some_row(rows.sizes[degree - 1], source)
            self.assertEqual(product_sum(row, rise_of(rows, degree - 1, telling)), product_sum(found, telling))
            self.assertFalse(any(fall(rows, degree - 1, found)))
            # A fallen row has the value 0 at all still tellings.
            for still in still_tellings(rows, degree - 1, source):
                self.assertEqual(product_sum(found, still), 0)
        self.assertEqual(fall(WIDE, 1, (1, -1)), (LONG, LONG))

    def test_quiet_readings(self):
        source = random.Random(3)
        for rows, degree in pairs(ALL):
            row, m = some_row(rows.sizes[degree], source, 3), source.choice((0, 1, 2, 3, 4, 6, 12))
            told = all([is_zero(number, m) for number in fall(rows, degree, row)])
            self.assertIs(is_quiet(rows, degree, (m, row)), told)
            self.assertIs(is_quiet(rows, degree, (1, row)), True)
        check_judged(
            self, is_quiet, (HALF, 1), [(2, (1,)), (1, (5,)), (0, (0,)), (4, (LONG,)), (2 * LONG, (LONG,))],
            [(0, (1,)), (4, (1,)), (-2, (1,)), (True, (1,)), (2, (True,)), (2, [1]), [2, (1,)], (2, (1, 1)), (2,),
             (2, (1,), 0), (2, ()), (None, (1,)), (LONG, (1,))])
        check_judged(
            self, is_quiet, (HALF, 0), [(0, (1,)), (0, (LONG,)), (7, (3,)), (1, (1,))],
            [(-1, (1,)), (0, (1, 1)), (0, ())])
        check_judged(self, is_quiet, (Rows((0,), ()), 0), [(0, ()), (5, ())], [(0, (0,))])

    def test_wrong_ones(self):
        for function in (fall, fallen_answer):
            check_wrong(self, function, (PLAIN, 1, (1, 2, 3)), ("rows", "degree 1", "reading row"))
        check_wrong(self, is_quiet, (PLAIN, 1, None), ("rows", "degree 1", None))
        check_wrong(self, row_order, (PLAIN, 0, (1, 2, 3)), ("rows", "degree 1", "reading row"))
        for function in (fall, fallen_answer, row_order):
            refusal(self, function, (HALF, 0, (1, 2)), InvalidRow)


class Fallen(unittest.TestCase):
    def test_both_sides(self):
        source, kinds = random.Random(4), []
        for rows, degree in pairs(ALL):
            for row in quiet_rows(rows, degree, source) + [some_row(rows.sizes[degree], source)]:
                claim, paper = fallen_answer(rows, degree, row)
                self.assertEqual(claim[1:], (transposed(rows.grid(degree)), row))
                self.assertTrue(holds(claim, paper))
                kinds.append(claim[0])
                if claim[0] == "made":
                    self.assertEqual(len(paper), rows.sizes[degree + 1] if degree + 1 < len(rows) else 0)
                    self.assertEqual(read(paper, rows.grid(degree)), row)
                else:
                    m, telling = paper
                    rise = rise_of(rows, degree, telling)
                    self.assertTrue(all([is_zero(number, m) for number in rise]))
                    self.assertFalse(is_zero(product_sum(row, telling), m))
        self.assertGreater(kinds.count("made"), 40)
        self.assertGreater(kinds.count("barred"), 40)
        self.assertEqual(fallen_answer(HALF, 1, (0,)), (("made", (0, ((),)), (0,)), ()))
        self.assertEqual(fallen_answer(HALF, 1, (1,))[0][0], "barred")

    def test_not_true(self):
        # [10.9]: the row has the value 0 at all still tellings, of which there is one alone, and is not fallen.
        self.assertIs(is_still_row(HALF, 0, (1,)), False)
        self.assertEqual(fallen_answer(HALF, 0, (1,))[0][0], "barred")
        self.assertEqual([reading_group(HALF, 0), group(HALF, 0)], [(0, (2,)), (0, ())])


class Groups(unittest.TestCase):
    def test_ranks_and_divisors(self):
        for rows, degree in pairs(ALL):
            rank, found = reading_group(rows, degree)
            self.assertEqual(rank, group(rows, degree)[0])
            self.assertEqual(found, group(rows, degree + 1)[1] if degree + 1 < len(rows) else ())
            self.assertEqual((rank, found), group(turned_rows(rows), len(rows) - 1 - degree))
        self.assertEqual(
            [reading_group(BLOCKS[0][0], degree) for degree in range(4)],
            [(1, (2, 4)), (1, (6, 12)), (1, (3,)), (0, ())])
        self.assertEqual([reading_group(WIDE, degree) for degree in (0, 1)], [(0, (LONG, 2 * LONG)), (0, ())])
        check_wrong(self, reading_group, (PLAIN, 1), ("rows", "degree 1"))

    def test_pairings(self):
        source = random.Random(5)
        for rows, degree in pairs(ALL):
            rank, _ = group(rows, degree)
            tellings, others = pairing(rows, degree)
            self.assertEqual((len(tellings), len(others)), (rank, rank))
            self.assertTrue(all([is_still_row(rows, degree, telling) for telling in tellings]))
            self.assertTrue(all([is_quiet(rows, degree, (0, row)) for row in others]))
            for at, row in enumerate(others):
                self.assertEqual([product_sum(row, telling) for telling in tellings], list(unit(rank)[1][at]))
            self.assertIs(is_pairing(rows, degree, (tellings, others)), True)
            # Some multiple of a still telling is made exactly if all rows are 0 at it, and so for quiet rows.
            exponent = math.prod(group(rows, degree)[1])
            for telling in still_tellings(rows, degree, source):
                made = telling_answer(rows, degree, multiple(telling, exponent))[0][0] == "made"
                self.assertIs(made, not any([product_sum(row, telling) for row in others]))
            for row in quiet_rows(rows, degree, source):
                order = row_order(rows, degree, row)
                self.assertIs(order is not None, not any([product_sum(row, telling) for telling in tellings]))
        check_wrong(self, pairing, (PLAIN, 1), ("rows", "degree 1"))

    def test_other_pairings(self):
        source = random.Random(6)
        for rows, degree in pairs(ALL):
            tellings, others = pairing(rows, degree)
            low, high = rows.grid(degree - 1), rows.grid(degree)
            made = [moved(low, some_row(low[0], source, 2)) for _ in tellings]
            fallen = [read(some_row(len(high[1]), source, 2), high) for _ in tellings]
            changed = tuple([tuple([a + b for a, b in zip(row, more)]) for row, more in zip(tellings, made)])
            further = tuple([tuple([a + b for a, b in zip(row, more)]) for row, more in zip(others, fallen)])
            self.assertIs(is_pairing(rows, degree, (changed, further)), True)
            self.assertIs(is_pairing(rows, degree, (changed[::-1], further[::-1])), True)
            if tellings:
                self.assertIs(is_pairing(rows, degree, (changed[1:], further[1:])), False)
                self.assertIs(is_pairing(rows, degree, (changed, further[1:])), False)
                self.assertIs(is_pairing(rows, degree, (multiple(changed[0], -1),) + changed[1:]), False)
                less = (multiple(changed[0], -1),) + changed[1:], (multiple(further[0], -1),) + further[1:]
                self.assertIs(is_pairing(rows, degree, less), True)
                self.assertIs(is_pairing(rows, degree, (less[0], further)), False)
            if len(tellings) > 1:
                self.assertIs(is_pairing(rows, degree, (changed[::-1], further)), False)

    def test_judging_pairings(self):
        check_judged(
            self, is_pairing, (APART, 0),
            [(((1, 1),), ((1, 0),)), (((1, 1),), ((0, 1),)), (((-1, -1),), ((LONG, -LONG - 1),))],
            [(((1, 1),), ((1, 1),)), (((1, 0),), ((1, 0),)), ([(1, 1)], [(1, 0)]), (((1, 1),), [(1, 0)]), ((), ()),
             ((1, 1), (1, 0)), (((1, True),), ((1, 0),)), (((1, 1),), ((True, 0),)), [((1, 1),), ((1, 0),)],
             (((1, 1),), ((1, 0),), ()), (((1,),), ((1,),)), (((1, 1), (1, 1)), ((1, 0), (1, 0))),
             (((1, 1), (0, 0)), ((1, 0),)), (((1, 1),), ((1, 0), (0, 0)))])
        check_judged(self, is_pairing, (APART, 1), [((), ())], [(((0,),), ((0,),)), ((),), ((), (), ())])
        check_judged(
            self, is_pairing, (PLAIN, 1), [(((1, 0, 0),), ((1, -1, 1),))],
            [(((1, 0, 0),), ((1, 0, 0),)), (((1, 0, 0),), ((1, 1, 1),))])
        check_wrong(self, is_pairing, (PLAIN, 1, None), ("rows", "degree 1", None))


class Orders(unittest.TestCase):
    def test_least_multiples(self):
        source, found = random.Random(7), []
        for rows, degree in pairs(ALL):
            high = transposed(rows.grid(degree))
            exponent = max(reading_group(rows, degree)[1], default=1)
            for row in quiet_rows(rows, degree, source):
                order = row_order(rows, degree, row)
                found.append(order)
                if order is None:
                    claim, paper = fallen_answer(rows, degree, multiple(row, exponent))
                    self.assertEqual((claim[0], holds(claim, paper)), ("barred", True))
                    continue
                self.assertEqual(exponent % order, 0)
                self.assertEqual(fallen_answer(rows, degree, multiple(row, order))[0][0], "made")
                for number in range(1, order):
                    claim, paper = fallen_answer(rows, degree, multiple(row, number))
                    self.assertTrue(claim[0] == "barred" and bars(high, multiple(row, number), paper))
        self.assertTrue({None, 1, 2, 3, 4, 6, 12} <= set(found), set(found))
        self.assertEqual(row_order(Rows((1, 1), ((1, ((10 ** 40,),)),)), 0, (4,)), 10 ** 40 // 4)
        self.assertEqual(row_order(Rows((0,), ()), 0, ()), 1)
        self.assertEqual(row_order(HALF, 1, (0,)), 1)

    def test_rows_that_are_not_quiet(self):
        refusal(self, row_order, (HALF, 1, (1,)), InvalidOperation)
        refusal(self, row_order, (PLAIN, 1, (1, 0, 0)), InvalidOperation)


def told_link(rows, degree, row, telling):
    """The link by the other way of [10.6]: f times the row is the fall of q, and q at the telling is divided by f."""
    order = row_order(rows, degree, row)
    claim, origin = fallen_answer(rows, degree, multiple(row, order))
    assert claim[0] == "made"
    value = fractions.Fraction(product_sum(origin, telling), order) % 1
    return value.numerator, value.denominator


class Links(unittest.TestCase):
    def cases(self, seed):
        """Rows, degrees, quiet rows with an order, and still tellings of which a multiple is made."""
        source = random.Random(seed)
        for rows, degree in pairs(ALL):
            if degree + 1 < len(rows):
                ahead = [row for row in quiet_rows(rows, degree, source) if row_order(rows, degree, row) is not None]
                number = math.prod(group(rows, degree + 1)[1])
                behind = [
                    telling for telling in still_tellings(rows, degree + 1, source)
                    if telling_answer(rows, degree + 1, multiple(telling, number))[0][0] == "made"]
                yield rows, degree, ahead, behind

    def test_both_ways(self):
        found = []
        for rows, degree, ahead, behind in self.cases(8):
            number = math.prod(group(rows, degree + 1)[1])
            for row in ahead:
                for telling in behind:
                    top, bottom = link(rows, degree, row, telling)
                    self.assertTrue(0 <= top < bottom and math.gcd(top, bottom) == 1)
                    self.assertEqual((top, bottom), told_link(rows, degree, row, telling))
                    claim, origin = telling_answer(rows, degree + 1, multiple(telling, number))
                    value = fractions.Fraction(product_sum(row, origin), number) % 1
                    self.assertEqual((top, bottom), (value.numerator, value.denominator))
                    found.append((top, bottom))
        self.assertIn((0, 1), found)
        self.assertGreater(len(set(found)), 6)

    def test_sums(self):
        source = random.Random(9)
        for rows, degree, ahead, behind in self.cases(10):
            if ahead and behind:
                one, other = source.choice(ahead), source.choice(ahead)
                first, last = source.choice(behind), source.choice(behind)
                fallen = read(some_row(rows.sizes[degree + 1], source, 3), rows.grid(degree))
                made = moved(rows.grid(degree), some_row(rows.sizes[degree], source, 3))

                def told(row, telling):
                    return fractions.Fraction(*link(rows, degree, row, telling))

                def plus(row, more):
                    return tuple([a + b for a, b in zip(row, more)])

                self.assertEqual(told(plus(one, other), first), (told(one, first) + told(other, first)) % 1)
                self.assertEqual(told(one, plus(first, last)), (told(one, first) + told(one, last)) % 1)
                self.assertEqual(told(plus(one, fallen), plus(first, made)), told(one, first))

    def test_linked_tellings(self):
        kinds = []
        for rows, degree, ahead, _ in self.cases(11):
            for row in ahead:
                found = linked_telling(rows, degree, row)
                if fallen_answer(rows, degree, row)[0][0] == "made":
                    self.assertIsNone(found)
                else:
                    self.assertTrue(is_still_row(rows, degree + 1, found))
                    self.assertNotEqual(link(rows, degree, row, found), (0, 1))
                kinds.append(found is None)
        self.assertGreater(kinds.count(True), 30)
        self.assertGreater(kinds.count(False), 30)

    def test_long_ones(self):
        wide = Rows((1, 1), ((1, ((10 ** 40,),)),))
        self.assertEqual(link(wide, 0, (5,), (10 ** 35 + 1,)), (5 * (10 ** 35 + 1) // 5, 10 ** 40 // 5))
        self.assertEqual(link(wide, 0, (5,), linked_telling(wide, 0, (5,)))[1] > 1, True)

    def test_what_has_no_link(self):
        for arguments in (
                (HALF, 0, (1,), (1,)), (BLOCKS[0][0], 0, (0,) * BLOCKS[0][0].sizes[0], (0,) * BLOCKS[0][0].sizes[1])):
            link(*arguments)
        # No order; not quiet; not still; still, but no multiple is made.
        three = Rows((1, 2, 1), ((1, ((2,), (0,))), (2, ((0, 3),))))
        self.assertEqual(link(three, 0, (1,), (1, 0)), (1, 2))
        refusal(self, link, (three, 0, (1,), (0, 1)), InvalidOperation)
        self.assertEqual(link(three, 1, (0, 1), (1,)), (1, 3))
        refusal(self, link, (three, 1, (1, 0), (1,)), InvalidOperation)
        free = Rows((1, 2), ((1, ((2,), (0,))),))
        refusal(self, link, (free, 0, (1,), (0, 1)), InvalidOperation)
        refusal(self, link, (APART, 0, (1, 0), (0,)), InvalidOperation)
        self.assertEqual(link(APART, 0, (1, -1), (1,)), (0, 1))
        refusal(self, linked_telling, (APART, 0, (1, 0)), InvalidOperation)
        refusal(self, linked_telling, (three, 1, (1, 0)), InvalidOperation)
        self.assertIsNone(linked_telling(three, 1, (0, 3)))

    def test_wrong_ones(self):
        check_wrong(self, link, (HALF, 0, (1,), (1,)), ("rows", "only 0", "one row", "one telling"))
        check_wrong(self, linked_telling, (HALF, 0, (1,)), ("rows", "only 0", "one row"))
        for rows in (Rows((1,), ()), Rows((1, 1, 1), (nought(1, 1), ONE))):
            most = len(rows) - 1
            self.assertEqual(refusal(self, link, (rows, most, None, None), InvalidNumber).given, most)
            self.assertEqual(refusal(self, linked_telling, (rows, most, None), InvalidNumber).given, most)


class Classes(unittest.TestCase):
    def told_number(self, rows, degree, m):
        """How many classes there are, by all rows of integers from 0 to m - 1."""
        high, quiet = rows.grid(degree), []
        origins = itertools.product(range(m), repeat=len(high[1]))
        fallen = {tuple([number % m for number in read(row, high)]) for row in origins}
        for row in itertools.product(range(m), repeat=rows.sizes[degree]):
            if all([number % m == 0 for number in read(row, rows.grid(degree - 1))]):
                quiet.append(row)
        return len(quiet) // len(fallen)

    def test_all_rows_counted(self):
        told = 0
        for rows, degree in pairs(ALL):
            for m in (1, 2, 3, 4):
                if m ** max(rows.sizes[degree], len(rows.grid(degree)[1])) <= 256:
                    self.assertEqual(quiet_classes(rows, degree, m), self.told_number(rows, degree, m))
                    told += 1
        self.assertGreater(told, 150)

    def test_numbers(self):
        rows = BLOCKS[0][0]
        self.assertEqual(quiet_classes(rows, 0, 12), 12 * 2 * 4)
        self.assertEqual(quiet_classes(rows, 1, 12), 12 * 6 * 12 * 2 * 4)
        self.assertEqual(quiet_classes(rows, 3, 10 ** 6), 1)
        self.assertEqual(quiet_classes(rows, 2, 10 ** 6), 10 ** 6 * 2 * 4)
        self.assertEqual(quiet_classes(Rows((30,), ()), 0, 10 ** 6), 10 ** 180)
        self.assertEqual(quiet_classes(Rows((0,), ()), 0, 7), 1)
        self.assertEqual(quiet_classes(WIDE, 1, 10 ** 6), 10 ** 12)

    def test_wrong_ones(self):
        WRONG["modulus"] = (InvalidNumber, WRONG_INTEGERS + (0, -1, 10 ** 6 + 1))
        check_wrong(self, quiet_classes, (PLAIN, 1, 10 ** 6), ("rows", "degree 1", "modulus"))


class Values(unittest.TestCase):
    def test_kinds(self):
        for function in (turned_rows,):
            refusal(self, function, (TWIST,), InvalidRows)
        for value in ODD:
            is_quiet(BENT, 1, value)
            is_pairing(BENT, 1, value)


if __name__ == "__main__":
    unittest.main()
