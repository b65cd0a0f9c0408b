"""Two halves of a space [13.1] to [13.6]."""

import random
import unittest

from gluewhole.errors import InvalidNumber, InvalidOperation, InvalidSpace, InvalidTable, InvalidTelling, Refused
from gluewhole.rows.halves import (
    are_halves, common_part, extend_answer, from_common, glue_answer, glued, half_groups, is_glued, part_on, put_out,
    raised, sides_answer, sides_grid, union)
from gluewhole.tables.groups import group, rows_of, telling_answer
from gluewhole.tables.tables import Table, constant, restricted
from gluewhole.tables.tellings import is_still, rise_grid, sizes
from tests.helper import (
    FILLED, ONE, ROUND, TWIST, WRONG, WRONG_INTEGERS, WRONG_ROWS, WRONG_SPACES, are_numbers, check_judged, check_wrong,
    closed, degrees_of, holds, moved, random_tables, refusal, some_row, spaces, stills)

T = constant(ROUND, 1)
LONG_PART, SHORT_PART = ((0,), (1,), (2,), (0, 1), (1, 2)), ((0,), (2,), (0, 2))
ENDS = ((0,), (2,))
BIG = 10 ** 30


def cut_in_halves(table, source):
    """Two halves of the space of the table."""
    space = table.space
    one = closed(source.sample(space, source.randint(0, len(space))))
    other = closed([cell for cell in space if cell not in one] + source.sample(one, source.randint(0, len(one) // 3)))
    return one, other


def all_cuts(seed, many=30):
    """Tables with two halves of their spaces."""
    source, found = random.Random(seed), [
        (T, LONG_PART, SHORT_PART), (TWIST, LONG_PART, SHORT_PART), (TWIST, SHORT_PART, LONG_PART),
        (T, ROUND, ROUND), (T, ROUND, ()), (T, (), ROUND), (constant((), 1), (), ())]
    for table in random_tables(seed, many):
        for _ in range(2):
            found.append((table,) + cut_in_halves(table, source))
    return found


CUTS = all_cuts(131)


def cells_at(sub, degree):
    """The cells of a degree."""
    return [cell for cell in sub if len(cell) == degree + 1]


def told_split(table, sub, degree, row):
    """The numbers of a telling on a sub-space, cell by cell."""
    found, begin = {}, 0
    for cell in cells_at(sub, degree):
        found[cell] = row[begin:begin + table.ranks[cell]]
        begin += table.ranks[cell]
    assert begin == len(row)
    return found


def told_row(table, sub, degree, told):
    """The telling on a sub-space with these numbers, noughts where none are told."""
    found = ()
    for cell in cells_at(sub, degree):
        found += told.get(cell, (0,) * table.ranks[cell])
    return found


def told_part(table, within, sub, degree, row):
    """The part on a sub-space of a telling on a greater one."""
    return told_row(table, sub, degree, told_split(table, within, degree, row))


def told_rise(table, sub, degree, row):
    """The rise on a sub-space, of any degree from -1 on."""
    on = restricted(table, sub)
    if degree == -1:
        return (0,) * sum([table.ranks[cell] for cell in cells_at(sub, 0)])
    if degree not in degrees_of(on):
        return ()
    return moved(rise_grid(on, degree), row)


def size_on(table, sub, degree):
    """The size of a degree on a sub-space."""
    return sum([table.ranks[cell] for cell in cells_at(sub, degree)])


def stills_on(table, sub, degree, source, many=2):
    """A few still tellings on a sub-space."""
    on = restricted(table, sub)
    if degree not in degrees_of(on):
        return [()]
    return stills(on, degree, source, many)


def plus(one, other):
    """The sum of two rows."""
    assert len(one) == len(other)
    return tuple([a + b for a, b in zip(one, other)])


def less(one, other):
    """The first row less the second one."""
    assert len(one) == len(other)
    return tuple([a - b for a, b in zip(one, other)])


def shared(one, other):
    """The common part."""
    return tuple([cell for cell in one if cell in other])


class Examples(unittest.TestCase):
    def test_gluing(self):
        self.assertEqual(
            [common_part(T, LONG_PART, SHORT_PART), put_out(T, SHORT_PART, 0, (5, 6)),
             glue_answer(T, LONG_PART, SHORT_PART, 0, (5, 5, 5), (5, 5)),
             glue_answer(T, LONG_PART, SHORT_PART, 0, (5, 5, 5), (4, 4))[0][0]],
            [((0,), (2,)), (5, 0, 6), (("made", (0, ((), ())), (0, 0)), ()), "barred"])

    def test_raising(self):
        self.assertEqual(
            [raised(T, LONG_PART, SHORT_PART, 0, (1, 0)), sides_answer(T, LONG_PART, SHORT_PART, 0, (1, 0))[0][0],
             sides_answer(T, LONG_PART, SHORT_PART, 0, (2, 2))[0][0], extend_answer(T, ENDS, 0, (5, 5))[1]],
            [(-1, 0, 0), "barred", "made", (5, 5, 5)])

    def test_groups(self):
        self.assertEqual(
            half_groups(T, LONG_PART, SHORT_PART),
            (((1, ()), (1, ()), (1, ()), (2, ())), ((1, ()), (0, ()), (0, ()), (0, ()))))

    def test_one_that_raises(self):
        caught = refusal(self, union, (T, LONG_PART, SHORT_PART, 0, (1, 2, 3), (1, 4)), Refused)
        self.assertEqual(caught.reason, ("unlike", (2,)))


class Halves(unittest.TestCase):
    def test_judging(self):
        source = random.Random(1)
        for table, one, other in CUTS:
            self.assertIs(are_halves(table.space, (one, other)), True)
            self.assertIs(are_halves(table.space, (other, one)), True)
            self.assertIs(are_halves(table.space, [one, other]), False)
            self.assertEqual(common_part(table, one, other), shared(one, other))
        for space in spaces(132, 20):
            one = closed(source.sample(space, source.randint(0, len(space))))
            other = closed(source.sample(space, source.randint(0, len(space))))
            self.assertIs(are_halves(space, (one, other)), set(one) | set(other) == set(space))
        check_judged(
            self, are_halves, (ROUND,),
            [(LONG_PART, SHORT_PART), (ROUND, ()), ((), ROUND), (ROUND, ROUND), (ROUND, ENDS)],
            [(LONG_PART, ENDS), (ROUND,), (ROUND, (), ()), (ROUND, FILLED), (ROUND, ((9,),)), (ROUND, ((0, 1),)),
             (ROUND, [(0,)]), (ROUND, None), (LONG_PART, ((0, 2),)), ((), ()), (LONG_PART, ((0,), (True,)))])
        check_judged(self, are_halves, ((),), [((), ())], [((), ((0,),)), ((),)])

    def test_parts(self):
        source = random.Random(2)
        for table, one, other in CUTS:
            for sub in (one, other, shared(one, other)):
                for degree in degrees_of(table):
                    row = some_row(sizes(table)[degree], source)
                    part = part_on(table, sub, degree, row)
                    self.assertEqual(part, told_part(table, table.space, sub, degree, row))
                    # Parts of rises are rises of parts.
                    if degree + 1 in degrees_of(table):
                        rise = moved(rise_grid(table, degree), row)
                        self.assertEqual(part_on(table, sub, degree + 1, rise), told_rise(table, sub, degree, part))
                    out = put_out(table, sub, degree, part)
                    self.assertEqual(out, told_row(table, table.space, degree, told_split(table, sub, degree, part)))
                    self.assertEqual(part_on(table, sub, degree, out), part)
        self.assertEqual([part_on(T, ENDS, 1, (1, 2, 3)), put_out(T, ENDS, 1, ())], [(), (0, 0, 0)])
        self.assertEqual([part_on(T, (), 0, (1, 2, 3)), put_out(T, (), 0, ())], [(), (0, 0, 0)])

    def test_unions(self):
        source, unlike = random.Random(3), 0
        for table, one, other in CUTS:
            for degree in degrees_of(table):
                row = some_row(sizes(table)[degree], source)
                x, y = part_on(table, one, degree, row), part_on(table, other, degree, row)
                self.assertEqual(union(table, one, other, degree, x, y), row)
                worse = tuple([number + (source.random() < 0.3) for number in y])
                first, last = told_split(table, one, degree, x), told_split(table, other, degree, worse)
                bad = [cell for cell in cells_at(shared(one, other), degree) if first[cell] != last[cell]]
                if bad:
                    caught = refusal(self, union, (table, one, other, degree, x, worse), Refused)
                    self.assertEqual(caught.reason, ("unlike", bad[0]))
                    unlike += 1
                else:
                    found = union(table, one, other, degree, x, worse)
                    self.assertEqual(told_part(table, table.space, other, degree, found), worse)
        self.assertGreater(unlike, 20)


class Gluing(unittest.TestCase):
    def is_told(self, table, one, other, degree, x, y, value):
        """Whether the value is a triple of [13.2], by sums and products."""
        telling, left, right = value
        if not are_numbers(telling, sizes(table)[degree]) or not is_still(table, degree, telling):
            return False
        for sub, part, more in ((one, x, left), (other, y, right)):
            if not are_numbers(more, size_on(table, sub, degree - 1)):
                return False
            moved_on = plus(part, told_rise(table, sub, degree - 1, more))
            if told_part(table, table.space, sub, degree, telling) != moved_on:
                return False
        return True

    def pairs(self, table, one, other, degree, source):
        """Still tellings on both halves: parts of one, moved by rises, and others."""
        found = [(x, y) for x in stills_on(table, one, degree, source) for y in stills_on(table, other, degree, source)]
        whole = source.choice(stills(table, degree, source))
        parts = [told_part(table, table.space, sub, degree, whole) for sub in (one, other)]
        rises = [told_rise(table, sub, degree - 1, some_row(size_on(table, sub, degree - 1), source, 3))
                 for sub in (one, other)]
        return source.sample(found, min(2, len(found))) + [tuple([plus(a, b) for a, b in zip(parts, rises)])]

    def test_exactly_if(self):
        source, kinds = random.Random(4), []
        for table, one, other in CUTS:
            both = shared(one, other)
            for degree in degrees_of(table):
                for x, y in self.pairs(table, one, other, degree, source):
                    claim, paper = glue_answer(table, one, other, degree, x, y)
                    wish = less(told_part(table, one, both, degree, x), told_part(table, other, both, degree, y))
                    grid = (0, ((),) * len(wish)) if degree == 0 else told_grid(table, both, degree - 1)
                    self.assertEqual(claim[1:], (grid, wish))
                    self.assertTrue(holds(claim, paper))
                    value = glued(table, one, other, degree, x, y)
                    kinds.append((claim[0], degree > 0, claim[0] == "barred" and paper[0] > 0))
                    self.assertIs(value is None, claim[0] == "barred")
                    self.assertIs(is_glued(table, one, other, degree, x, y, None), False)
                    if value is None:
                        none = (0,) * sizes(table)[degree]
                        for near in ((none, (), ()), (put_out(table, one, degree, x), (), ())):
                            self.assertIs(is_glued(table, one, other, degree, x, y, near), False)
                        continue
                    self.assertTrue(self.is_told(table, one, other, degree, x, y, value))
                    self.assertIs(is_glued(table, one, other, degree, x, y, value), True)
                    if degree == 0:
                        self.assertEqual(value[1:], ((), ()))
                    self.check_near(table, one, other, degree, x, y, value, source)
        self.assertGreater(kinds.count(("made", True, False)), 40)
        self.assertGreater(kinds.count(("made", False, False)), 40)
        self.assertGreater(kinds.count(("barred", False, False)), 20)
        self.assertGreater(len([kind for kind in kinds if kind[:2] == ("barred", True)]), 5)

    def check_near(self, table, one, other, degree, x, y, value, source):
        """Other triples, right and wrong ones, are judged as sums and products tell."""
        telling, left, right = value
        if degree > 0:
            more = some_row(sizes(table)[degree - 1], source, 2)
            rise = moved(rise_grid(table, degree - 1), more)
            parts = [told_part(table, table.space, sub, degree - 1, more) for sub in (one, other)]
            moved_on = plus(telling, rise), plus(left, parts[0]), plus(right, parts[1])
            self.assertIs(is_glued(table, one, other, degree, x, y, moved_on), True)
            for near in ((telling,) + moved_on[1:], (moved_on[0], left, right), (moved_on[0], moved_on[1], right)):
                told = self.is_told(table, one, other, degree, x, y, near)
                self.assertIs(is_glued(table, one, other, degree, x, y, near), told)
        else:
            self.assertIs(is_glued(table, one, other, degree, x, y, (telling, (0,), ())), False)
        for near in ((telling, left), value + ((),), list(value), (list(telling), left, right), (telling, left, None),
                     (telling + (0,), left, right), (telling, left + (0,), right)):
            self.assertIs(is_glued(table, one, other, degree, x, y, near), False)
        for at in range(len(telling)):
            near = telling[:at] + (telling[at] + 1,) + telling[at + 1:], left, right
            self.assertIs(is_glued(table, one, other, degree, x, y, near), False)

    def test_bars(self):
        for table, m in ((TWIST, 2), (T, 0)):
            claim, paper = glue_answer(table, ROUND, ROUND, 1, (1, 0, 0), (0, 0, 0))
            self.assertEqual((claim[0], paper[0]), ("barred", m))
            self.assertTrue(holds(claim, paper))
            self.assertIsNone(glued(table, ROUND, ROUND, 1, (1, 0, 0), (0, 0, 0)))
        self.assertIsNotNone(glued(TWIST, ROUND, ROUND, 1, (2, 0, 0), (0, 0, 0)))

    def test_judging(self):
        check_judged(
            self, is_glued, (T, LONG_PART, SHORT_PART, 0, (5, 5, 5), (5, 5)), [((5, 5, 5), (), ())],
            [None, ((5, 5, 5), (0,), ()), ((5, 5, 6), (), ()), (5, 5, 5), ((5, 5, 5), ()), [(5, 5, 5), (), ()]])
        check_judged(self, is_glued, (T, LONG_PART, SHORT_PART, 0, (5, 5, 5), (4, 4)), [], [((5, 5, 5), (), ())])
        check_judged(
            self, is_glued, (T, LONG_PART, SHORT_PART, 1, (1, 2), (3,)),
            [((1, 3, 2), (0, 0, 0), (0, 0)), ((1, BIG + 3, 2), (0, 0, 0), (-BIG, 0)),
             ((BIG, 3, 3 - BIG), (0, BIG - 1, 0), (7, 7))],
            [((1, 3, 2), (0, 0, 0), (0, 1)), ((1, 3, 2), (0, 0), (0, 0)), ((1, 3, 3), (0, 0, 0), (0, 0)),
             ((1, 3, 2), (False,) * 3, (0, 0))])


def told_grid(table, sub, degree):
    """R(d) on a sub-space, also where it has no cells."""
    on = restricted(table, sub)
    if degree in degrees_of(on):
        return rise_grid(on, degree)
    return 0, ()


class Raising(unittest.TestCase):
    def test_raised(self):
        source, kinds = random.Random(5), []
        for table, one, other in CUTS:
            both = shared(one, other)
            for degree in degrees_of(table):
                for telling in stills_on(table, both, degree, source):
                    found = raised(table, one, other, degree, telling)
                    if degree + 1 not in degrees_of(table):
                        self.assertEqual(found, ())
                    out = told_row(table, one, degree, told_split(table, both, degree, telling))
                    rise = told_rise(table, one, degree, out)
                    if degree + 1 in degrees_of(table):
                        if not rise:
                            rise = (0,) * size_on(table, one, degree + 1)
                        self.assertFalse(any(told_part(table, one, both, degree + 1, rise)))
                        self.assertEqual(
                            found, told_row(table, table.space, degree + 1, told_split(table, one, degree + 1, rise)))
                        self.assertTrue(is_still(table, degree + 1, found))
                        made = telling_answer(rows_of(table), degree + 1, found)[0][0]
                        self.assertEqual(made, sides_answer(table, one, other, degree, telling)[0][0])
                    self.check_sides(table, one, other, degree, telling, kinds)
        for kind in ("made", "barred"):
            self.assertGreater(kinds.count(kind), 8)

    def check_sides(self, table, one, other, degree, telling, kinds):
        """The grid and the answer of both sides."""
        both = shared(one, other)
        grid = sides_grid(table, one, other, degree)
        widths = [size_on(table, sub, degree) for sub in (one, other)]
        self.assertEqual(grid[0], sum(widths))
        source = random.Random(len(grid[1]))
        u, v = [some_row(width, source) for width in widths]
        rises = told_rise(table, one, degree, u) + told_rise(table, other, degree, v)
        sides = plus(told_part(table, one, both, degree, u), told_part(table, other, both, degree, v))
        self.assertEqual(moved(grid, u + v), rises + sides)
        claim, paper = sides_answer(table, one, other, degree, telling)
        self.assertEqual(claim[1:], (grid, (0,) * (len(grid[1]) - len(telling)) + telling))
        self.assertTrue(holds(claim, paper))
        kinds.append(claim[0])
        if claim[0] == "made" and degree + 1 in degrees_of(table):
            # What is raised is the rise of the union of the telling, put out, less u, and of v.
            u, v = paper[:widths[0]], paper[widths[0]:]
            out = told_row(table, one, degree, told_split(table, both, degree, telling))
            joint = union(table, one, other, degree, less(out, u), v)
            self.assertEqual(moved(rise_grid(table, degree), joint), raised(table, one, other, degree, telling))

    def test_from_common(self):
        source, kinds = random.Random(6), []
        for table, one, other in CUTS:
            both = shared(one, other)
            for degree in list(degrees_of(table))[1:]:
                tellings = stills(table, degree, source)
                low = some_row(sizes(table)[degree - 1], source, 3)
                for common in stills_on(table, both, degree - 1, source):
                    tellings.append(plus(
                        raised(table, one, other, degree - 1, common), moved(rise_grid(table, degree - 1), low)))
                for telling in tellings:
                    value = from_common(table, one, other, degree, telling)
                    made = [is_made_on(table, sub, degree, told_part(table, table.space, sub, degree, telling))
                            for sub in (one, other)]
                    self.assertIs(value is not None, all(made))
                    kinds.append(value is None)
                    if value is not None:
                        common, origin = value
                        self.assertTrue(are_numbers(common, size_on(table, both, degree - 1)))
                        self.assertFalse(any(told_rise(table, both, degree - 1, common)))
                        told = plus(raised(table, one, other, degree - 1, common), moved(
                            rise_grid(table, degree - 1), origin))
                        self.assertEqual(told, telling)
        self.assertGreater(kinds.count(True), 15)
        self.assertGreater(kinds.count(False), 60)
        self.assertIsNone(from_common(TWIST, ROUND, (), 1, (1, 0, 0)))
        self.assertIsNotNone(from_common(TWIST, LONG_PART, SHORT_PART, 1, (1, 0, 0)))

    def test_extending(self):
        source, kinds = random.Random(7), []
        for table, one, other in CUTS:
            for sub in (one, other, shared(one, other)):
                for degree in degrees_of(table):
                    parts = stills_on(table, sub, degree, source, 1)
                    still = source.choice(stills(table, degree, source))
                    parts.append(told_part(table, table.space, sub, degree, still))
                    for part in parts:
                        claim, paper = extend_answer(table, sub, degree, part)
                        self.assertTrue(holds(claim, paper))
                        grid = claim[1]
                        row = some_row(grid[0], source)
                        high = told_rise(table, table.space, degree, row)
                        self.assertEqual(moved(grid, row), high + told_part(table, table.space, sub, degree, row))
                        self.assertEqual(claim[2], (0,) * len(high) + part)
                        kinds.append(claim[0])
                        if claim[0] == "made":
                            self.assertTrue(is_still(table, degree, paper))
                            self.assertEqual(told_part(table, table.space, sub, degree, paper), part)
                    self.assertEqual(kinds[-1], "made")
        self.assertGreater(kinds.count("barred"), 20)


def is_made_on(table, sub, degree, row):
    """Whether a telling on a sub-space is made there."""
    on = restricted(table, sub)
    return degree not in degrees_of(on) or telling_answer(rows_of(on), degree, row)[0][0] == "made"


class Groups(unittest.TestCase):
    def test_groups_and_ranks(self):
        divisors = 0
        for table, one, other in CUTS:
            found, ranks = half_groups(table, one, other), []
            self.assertEqual(len(found), len(degrees_of(table)))
            for degree, told in enumerate(found):
                for sub, value in zip((table.space, one, other, shared(one, other)), told):
                    on = rows_of(restricted(table, sub))
                    self.assertEqual(value, group(on, degree) if degree < len(on) else (0, ()))
                    divisors += len(value[1])
                ranks += [told[0][0], told[1][0] + told[2][0], told[3][0]]
            self.assertEqual(sum([(-1) ** at * rank for at, rank in enumerate(ranks)]), 0)
        self.assertGreater(divisors, 10)
        self.assertEqual(half_groups(constant((), 1), (), ()), ((((0, ()),) * 4),))
        self.assertEqual(half_groups(TWIST, LONG_PART, SHORT_PART)[1][0], (0, (2,)))

    def test_sharing_nothing(self):
        apart = constant(((0,), (1,)), 2)
        one, other = ((0,),), ((1,),)
        self.assertEqual(common_part(apart, one, other), ())
        self.assertEqual(glued(apart, one, other, 0, (1, 2), (3, 4)), ((1, 2, 3, 4), (), ()))
        self.assertEqual(glue_answer(apart, one, other, 0, (1, 2), (3, 4)), (("made", (0, ()), ()), ()))
        self.assertEqual(raised(apart, one, other, 0, ()), ())
        claim, paper = sides_answer(apart, one, other, 0, ())
        self.assertEqual((claim, holds(claim, paper)), (("made", (4, ()), ()), True))
        self.assertEqual(half_groups(apart, one, other), (((4, ()), (2, ()), (2, ()), (0, ())),))

    def test_big_sides(self):
        # Both halves the whole: the grid of the sides is up to 90 high.
        space = closed([(at, at + 1) for at in range(15)])
        pairs = [((point,), cell) for cell in space if len(cell) == 2 for point in cell]
        table = Table(space, {cell: 1 for cell in space}, {pair: ONE for pair in pairs})
        grid = sides_grid(table, table.space, table.space, 0)
        self.assertEqual((grid[0], len(grid[1])), (32, 46))
        claim, paper = sides_answer(table, table.space, table.space, 0, (7,) * 16)
        self.assertEqual((claim[0], holds(claim, paper)), ("made", True))


class Wrong(unittest.TestCase):
    def setUp(self):
        WRONG["halves"] = (InvalidOperation, WRONG_SPACES + (((9,),), FILLED, ((0,),)))
        WRONG["sub-space"] = (InvalidOperation, WRONG_SPACES + (((9,),), FILLED))
        for name, size in (("on one", 3), ("on other", 2), ("on edge", 1), ("whole", 3)):
            rows = [row for row in ((), (1,), (1, 2), (1, 2, 3)) if len(row) != size]
            WRONG[name] = (InvalidTelling, WRONG_ROWS + tuple(rows))

    def test_halves(self):
        check_wrong(self, are_halves, (ROUND, None), ("space", None))
        for function in (common_part, half_groups):
            check_wrong(self, function, (T, LONG_PART, SHORT_PART), ("table", "halves", "halves"))
        check_wrong(self, sides_grid, (T, LONG_PART, SHORT_PART, 0), ("table", "halves", "halves", "degree 1"))
        refusal(self, common_part, (T, LONG_PART, ENDS), InvalidOperation)
        refusal(self, are_halves, (TWIST, None), InvalidSpace)
        refusal(self, common_part, (ROUND, LONG_PART, ENDS), InvalidTable)

    def test_parts(self):
        check_wrong(self, part_on, (T, SHORT_PART, 0, (1, 2, 3)), ("table", "sub-space", "degree 1", "whole"))
        check_wrong(self, put_out, (T, SHORT_PART, 0, (1, 2)), ("table", "sub-space", "degree 1", "on other"))
        check_wrong(self, extend_answer, (T, SHORT_PART, 0, (2, 2)), ("table", "sub-space", "degree 1", "on other"))
        kinds = ("table", "halves", "halves", "degree 1", "on one", "on other")
        for function in (union, glue_answer, glued):
            check_wrong(self, function, (T, LONG_PART, SHORT_PART, 0, (2, 2, 2), (2, 2)), kinds)
        check_wrong(
            self, is_glued, (T, LONG_PART, SHORT_PART, 0, (2, 2, 2), (2, 2), None), kinds + (None,))
        for function in (raised, sides_answer):
            check_wrong(self, function, (T, LONG_PART, SHORT_PART, 0, (2, 2)), kinds[:4] + ("on other",))
        refusal(self, put_out, (T, ENDS, 1, (0,)), InvalidTelling)
        refusal(self, put_out, (T, (), 0, (0,)), InvalidTelling)

    def test_from_common(self):
        WRONG["only 1"] = (InvalidNumber, WRONG_INTEGERS + (0, -1, 2))
        check_wrong(
            self, from_common, (T, LONG_PART, SHORT_PART, 1, (1, 2, 3)),
            ("table", "halves", "halves", "only 1", "whole"))
        points = constant(((0,), (1,)), 1)
        self.assertEqual(refusal(self, from_common, (points, ((0,), (1,)), (), 0, None), InvalidNumber).given, 0)
        self.assertEqual(refusal(self, from_common, (points, ((0,), (1,)), (), 1, ()), InvalidNumber).given, 1)
        self.assertEqual(refusal(self, from_common, (constant((), 1), (), (), 0, ()), InvalidNumber).given, 0)

    def test_what_is_not_still(self):
        for function in (glue_answer, glued):
            for x, y, word in (((1, 2, 3), (4, 5), "x"), ((1, 1, 1), (4, 5), "y"), ((1, 2, 3), (4, 4), "x")):
                caught = refusal(self, function, (T, LONG_PART, SHORT_PART, 0, x, y), Refused)
                self.assertEqual(caught.reason, (word,))
        caught = refusal(self, is_glued, (T, LONG_PART, SHORT_PART, 0, (1, 1, 1), (1, 2), None), Refused)
        self.assertEqual(caught.reason, ("y",))
        # What is no telling comes ahead of what is not still.
        refusal(self, glued, (T, LONG_PART, SHORT_PART, 0, (1, 2, 3), (4,)), InvalidTelling)
        for function in (raised, sides_answer):
            caught = refusal(self, function, (T, ROUND, SHORT_PART, 0, (1, 2)), Refused)
            self.assertEqual(caught.reason, ("common",))
        filled = constant(FILLED, 1)
        caught = refusal(self, from_common, (filled, FILLED, (), 1, (1, 0, 0)), Refused)
        self.assertEqual(caught.reason, ("telling",))
        caught = refusal(self, extend_answer, (T, LONG_PART, 0, (1, 1, 2)), Refused)
        self.assertEqual(caught.reason, ("part",))

    def test_one_cell_each(self):
        # The first cell at which both are unlike, by its place in the space.
        caught = refusal(self, union, (T, ROUND, ROUND, 0, (1, 2, 3), (1, 5, 6)), Refused)
        self.assertEqual(caught.reason, ("unlike", (1,)))
        caught = refusal(self, union, (T, ROUND, ROUND, 1, (1, 2, 3), (1, 2, 4)), Refused)
        self.assertEqual(caught.reason, ("unlike", (1, 2)))


if __name__ == "__main__":
    unittest.main()
