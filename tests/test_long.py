"""Short exact rows of tables, and long ones [12.1] to [12.5]."""

import random
import unittest

from gluewhole.base.exact import plain_beside
from gluewhole.errors import InvalidMap, InvalidNumber, InvalidOperation, InvalidTable, InvalidTelling, Refused
from gluewhole.rows.long import (
    Short, is_origin, is_raised, is_splits, long_ranks, origin_of, raised, short_fault, splits)
from gluewhole.rows.maps import image_table, kernel_table, led_group, rows_map
from gluewhole.tables.groups import Makers, group, rows_of, telling_answer
from gluewhole.tables.tables import Table, constant, inside, outside, table_sum
from gluewhole.tables.tellings import rise_grid, sizes
from tests.helper import (
    EDGE, FILLED, LESS, ODD, ONE, ROUND, TWIST, TWO, WRONG, WRONG_INTEGERS, added, are_numbers, bars, check_judged,
    check_wrong, closed, degrees_of, exact_holds, frames_of, is_zero, moved, nought, random_maps, refusal, scaled,
    some_row, spaces, stills, times, turned_by, unit, weighted)

ENDS = ((0,), (1,))
T = constant(EDGE, 1)
INTO = {(0,): (0, ((),)), (1,): (0, ((),)), (0, 1): ONE}
ONTO = {(0,): ONE, (1,): ONE, (0, 1): (1, ())}
FIRST, LAST = outside(T, ENDS), inside(T, ENDS)
S = Short(FIRST, T, LAST, INTO, ONTO)
SAME = {cell: ONE for cell in EDGE}
LONG = 10 ** 30
PATH = ((0,), (1,), (2,), (0, 1), (1, 2))


def extensions(seed, many):
    """Short exact rows on spaces of points and stretches, the maps of the middle table mixing both parts."""
    source, found = random.Random(seed), []
    for _ in range(many):
        names = sorted(source.sample(range(9), source.randint(2, 5)))
        space = closed([tuple(sorted(source.sample(names, 2))) for _ in range(source.randint(1, 6))])
        one, other = [], []
        low = {cell: source.choice((0, 1, 1, 1, 2)) for cell in space}
        high = {cell: source.choice((0, 1, 1, 1, 2)) for cell in space}
        one, other, both = {}, {}, {}
        for cell in space:
            for face in [(point,) for point in cell if len(cell) == 2]:
                left = low[face], tuple([some_row(low[face], source, 3) for _ in range(low[cell])])
                right = high[face], tuple([some_row(high[face], source, 3) for _ in range(high[cell])])
                mix = high[face], tuple([some_row(high[face], source, 3) for _ in range(low[cell])])
                one[(face, cell)], other[(face, cell)] = left, right
                below = (low[face] + high[face], tuple([(0,) * low[face] + row for row in right[1]]))
                both[(face, cell)] = low[face] + high[face], plain_beside(left, mix)[1] + below[1]
        first, last = Table(space, low, one), Table(space, high, other)
        middle = Table(space, {cell: low[cell] + high[cell] for cell in space}, both)
        into = {cell: (low[cell], unit(low[cell])[1] + nought(high[cell], low[cell])[1]) for cell in space}
        onto = {cell: (low[cell] + high[cell], tuple([(0,) * low[cell] + row for row in unit(high[cell])[1]]))
                for cell in space}
        found.append((first, middle, last, into, onto))
    return found


def turned_short(short, source):
    """The short exact row, each table led by undone grids at all cells."""
    first, middle, last, into, onto = short
    frames = [frames_of(table, source) for table in (first, middle, last)]
    tables = [turned_by(table, turns) for table, turns in zip((first, middle, last), frames)]
    into = {cell: times(times(frames[1][cell][0], grid), frames[0][cell][1]) for cell, grid in into.items()}
    onto = {cell: times(times(frames[2][cell][0], grid), frames[1][cell][1]) for cell, grid in onto.items()}
    return tables[0], tables[1], tables[2], into, onto


def parted_triangle(sub):
    """A triangle with divisors, parted by a sub-space: twice the stretch (0, 2) comes to each triangle number."""
    weights = {cell: 1 for cell in FILLED}
    weights[(0, 1)] = weights[(1, 2)] = weights[(0, 1, 2)] = 2
    pairs = [(face, cell) for cell in FILLED for face in FILLED if len(face) == len(cell) - 1 and set(face) < set(cell)]
    table = Table(FILLED, {cell: 1 for cell in FILLED}, {
        (face, cell): (1, ((weights[cell] // weights[face],),)) for face, cell in pairs})
    into = {cell: nought(1, 0) if cell in sub else ONE for cell in FILLED}
    onto = {cell: ONE if cell in sub else nought(0, 1) for cell in FILLED}
    return outside(table, sub), table, inside(table, sub), into, onto


def all_shorts():
    """Short exact rows of many kinds."""
    source, found = random.Random(120), [(FIRST, T, LAST, INTO, ONTO)]
    for space in spaces(121, 12, 5):
        table = weighted(space, source)
        sub = closed(source.sample(space, source.randint(0, len(space))))
        into = {cell: nought(1, 0) if cell in sub else ONE for cell in space}
        onto = {cell: ONE if cell in sub else nought(0, 1) for cell in space}
        found.append((outside(table, sub), table, inside(table, sub), into, onto))
    found += [parted_triangle(sub) for sub in (ROUND, PATH, ((0,), (1,), (2,)), ())]
    for one, other, lead in random_maps(122, 25):
        below, into = kernel_table(one, other, lead)
        image, onto, _ = image_table(one, other, lead)
        found.append((below, one, image, into, onto))
    found += [turned_short(short, source) for short in extensions(123, 25)]
    found.append((TWIST, table_sum(TWIST, TWIST), TWIST, {cell: (1, ((1,), (0,))) for cell in ROUND},
                  {cell: (2, ((0, 1),)) for cell in ROUND}))
    found.append((constant((), 1), constant((), 2), constant((), 1), {}, {}))
    return [Short(*short) for short in found]


SHORTS = all_shorts()


def grid_at(short, name, degree):
    """The grid of into or of onto in a degree, of width or height 0 for a degree without cells."""
    if degree not in degrees_of(short.first):
        return 0, ()
    if name == "into":
        return rows_map(short.first, short.middle, short.into)[degree]
    return rows_map(short.middle, short.last, short.onto)[degree]


def rises(table, degree):
    """R(d), also for the degrees -1 and behind the greatest one."""
    if degree in degrees_of(table):
        return rise_grid(table, degree)
    return (0, ((),) * sizes(table)[0]) if degree == -1 else (0, ())


def size_at(table, degree):
    """The size of a degree, 0 where there is none."""
    return sizes(table)[degree] if degree in degrees_of(table) else 0


def is_raised_told(short, degree, telling, pair):
    """Whether the pair (x, y) is raised from the telling, by sums and products."""
    higher, origin = pair
    if not are_numbers(higher, size_at(short.first, degree + 1)):
        return False
    if not are_numbers(origin, size_at(short.middle, degree)):
        return False
    if moved(grid_at(short, "onto", degree), origin) != telling:
        return False
    return moved(grid_at(short, "into", degree + 1), higher) == moved(rises(short.middle, degree), origin)


def plus(one, other):
    """The sum of two rows."""
    assert len(one) == len(other)
    return tuple([a + b for a, b in zip(one, other)])


def less(one, other):
    """The first row less the second one."""
    assert len(one) == len(other)
    return tuple([a - b for a, b in zip(one, other)])


def is_still_told(table, degree, row):
    """Whether the row is a still telling of a degree, also of the degree -1."""
    return are_numbers(row, size_at(table, degree)) and not any(moved(rises(table, degree), row))


def is_origin_told(short, word, degree, telling, value):
    """Whether the value is an answer, by sums and products."""
    into, onto = grid_at(short, "into", degree), grid_at(short, "onto", degree)
    kind, told = value[0], value[1:]
    if word == "middle" and kind == "from":
        low, further = told
        fit = is_still_told(short.first, degree, low) and are_numbers(further, size_at(short.middle, degree - 1))
        return fit and plus(moved(into, low), moved(rises(short.middle, degree - 1), further)) == telling
    if word == "middle":
        return bars(rises(short.last, degree - 1), moved(onto, telling), told)
    if word == "last" and kind == "from":
        low, further = told
        fit = is_still_told(short.middle, degree, low) and are_numbers(further, size_at(short.last, degree - 1))
        return fit and plus(moved(onto, low), moved(rises(short.last, degree - 1), further)) == telling
    if word == "last":
        fit = is_raised_told(short, degree, telling, told[:2])
        return fit and bars(rises(short.first, degree), told[0], told[2:])
    if kind == "from":
        low, origin, further = told
        if not is_still_told(short.last, degree - 1, low) or not are_numbers(further, size_at(short.first, degree - 1)):
            return False
        rest = less(telling, moved(rises(short.first, degree - 1), further))
        if degree == 0:
            return told == ((), (), ()) and not any(moved(into, rest))
        return is_raised_told(short, degree - 1, low, (rest, origin))
    return bars(rises(short.middle, degree - 1), moved(into, telling), told)


def table_of(short, word):
    """The table that the word names."""
    return {"first": short.first, "middle": short.middle, "last": short.last}[word]


class Examples(unittest.TestCase):
    def test_the_row(self):
        self.assertEqual(
            [str(S), raised(S, 0, (3, 5)), long_ranks(S), splits(S)[(0,)], splits(S)[(0, 1)]],
            ["short exact row on 3 cells", ((2,), (3, 5)), (0, 1, 2, 1, 0, 0), ((1, ()), (1, ((1,),))),
             ((1, ((1,),)), (0, ((),)))])

    def test_origins(self):
        self.assertEqual(
            [origin_of(S, "last", 0, (4, 4)), origin_of(S, "last", 0, (3, 5))[:3],
             is_origin(S, "middle", 1, (7,), ("from", (7,), (0, 0))), is_raised(S, 0, (3, 5), ((2,), (4, 5)))],
            [("from", (4, 4), ()), ("to", (2,), (3, 5)), True, False])

    def test_one_that_raises(self):
        caught = refusal(self, Short, (T, T, T, SAME, SAME), Refused)
        self.assertEqual(caught.reason, ("middle", (0,)))


class ShortRows(unittest.TestCase):
    def test_right_ones(self):
        for short in SHORTS:
            told = short.first, short.middle, short.last, short.into, short.onto
            self.assertIsNone(short_fault(*told))
            self.assertEqual(str(short), f"short exact row on {len(short.first.space)} cells")
            self.assertEqual(short, Short(*told))
            self.assertEqual([list(short.into), list(short.onto)], [sorted(short.into), sorted(short.onto)])
            # Each cell by the definition: ranks and a paper.
            parts = splits(short)
            for cell in short.first.space:
                self.assertTrue(exact_holds(short.into[cell], short.onto[cell], parts[cell]))

    def test_faults(self):
        none, away, nothing = {c: (0, ((),)) for c in EDGE}, {c: (1, ()) for c in EDGE}, constant(EDGE, 0)
        zero, double = {c: nought(1, 1) for c in EDGE}, {c: TWO for c in EDGE}
        for told, fault in (
                ((T, T, nothing, SAME, away), None), ((nothing, T, T, none, SAME), None),
                ((T, T, T, zero, SAME), ("into", (0,))), ((T, T, nothing, double, away), ("middle", (0,))),
                ((T, T, T, SAME, SAME), ("middle", (0,))), ((nothing, T, T, none, double), ("onto", (0,))),
                ((T, T, T, SAME, zero), ("onto", (0,))), ((nothing, T, T, none, zero), ("middle", (0,))),
                ((T, nothing, nothing, away, {c: (0, ()) for c in EDGE}), ("into", (0,))),
                ((T, T, T, zero, zero), ("into", (0,)))):
            self.assertEqual(short_fault(*told), fault)
            if fault is not None:
                self.assertEqual(refusal(self, Short, told, Refused).reason, fault)
        # The fault of one cell alone: at the stretch, twice a number is led to.
        steep = Table(EDGE, {cell: 1 for cell in EDGE}, {(end, (0, 1)): TWO for end in ENDS})
        onto = {(0,): ONE, (1,): ONE, (0, 1): TWO}
        self.assertEqual(short_fault(nothing, T, steep, none, onto), ("onto", (0, 1)))
        self.assertEqual(short_fault(T, steep, nothing, {(0,): ONE, (1,): ONE, (0, 1): TWO}, away), ("middle", (0, 1)))
        # The first cell counts, not the first word.
        ends, zero = constant(ENDS, 1), nought(1, 1)
        self.assertEqual(
            short_fault(ends, ends, ends, {(0,): ONE, (1,): zero}, {(0,): zero, (1,): ONE}), ("onto", (0,)))
        # Cells of higher degrees come later, whatever their points are.
        space = closed([(0, 1), (5,)])
        tables = [Table(space, {c: rank for c in space}, {
            (end, (0, 1)): nought(rank, rank) for end in ENDS}) for rank in (1, 1, 0)]
        into = {(0,): ONE, (1,): ONE, (5,): TWO, (0, 1): TWO}
        self.assertEqual(short_fault(*tables, into, {c: (1, ()) for c in space}), ("middle", (5,)))

    def test_wrong_ones(self):
        good = (FIRST, T, LAST, INTO, ONTO)
        WRONG["into"] = (InvalidMap, (
            None, True, 0, "", (), [], {}, SAME, {**INTO, (9,): ONE}, {**INTO, (0,): None}, TWIST,
            {c: ONE for c in ROUND}))
        WRONG["onto"] = (InvalidMap, (
            None, True, 0, "", (), [], {}, SAME, {**ONTO, (9,): ONE}, {**ONTO, (0,): None}, TWIST, {(0,): ONE}))
        for function in (short_fault, Short):
            check_wrong(self, function, good, ("table", "table", "table", "into", "onto"))
            other = constant(ROUND, 1)
            for at in range(3):
                refusal(self, function, good[:at] + (other,) + good[at + 1:], InvalidOperation)
                refusal(self, function, good[:at] + (other,) + good[at + 1:3] + (None, None), InvalidOperation)
            refusal(self, function, (other, T, None, None, None), InvalidTable)
            refusal(self, function, (T, T, T, SAME, {**SAME, (0,): TWO}), InvalidMap)
            refusal(self, function, (T, T, T, {**SAME, (0,): TWO}, SAME), InvalidMap)

    def test_equal_ones(self):
        self.assertFalse(S == Short(FIRST, T, LAST, {**INTO, (0, 1): LESS}, ONTO))
        self.assertFalse(S == Short(FIRST, T, LAST, INTO, {**ONTO, (0,): LESS, (1,): LESS}))
        steep = Table(EDGE, T.ranks, {pair: TWO for pair in T.maps})
        self.assertFalse(S == Short(FIRST, steep, LAST, INTO, ONTO))
        for value in ODD + (T, (FIRST, T, LAST, INTO, ONTO)):
            self.assertFalse(S == value)
            self.assertFalse(value == S)
        self.assertIn(S, [None, Short(FIRST, T, LAST, INTO, ONTO)])
        self.assertRaises(TypeError, iter, S)

    def test_nothing_is_shared(self):
        into, onto = dict(INTO), dict(ONTO)
        short = Short(FIRST, T, LAST, into, onto)
        into[(0, 1)], onto[(0,)] = LESS, LESS
        self.assertEqual(short, S)
        short.into[(0, 1)] = None
        short.onto.clear()
        self.assertEqual((short, short.into, short.onto), (S, INTO, ONTO))
        for name in ("first", "middle", "last", "into", "onto"):
            self.assertRaises(AttributeError, setattr, short, name, None)
        splits(short).clear()
        self.assertEqual(len(splits(short)), 3)


class Splits(unittest.TestCase):
    def test_splits(self):
        source = random.Random(1)
        for short in SHORTS:
            found = splits(short)
            self.assertEqual(list(found), sorted(short.first.space))
            self.assertIs(is_splits(short, found), True)
            other = {}
            for cell, (ahead, behind) in found.items():
                into, onto = short.into[cell], short.onto[cell]
                turn = len(onto[1]), tuple([some_row(len(onto[1]), source, 3) for _ in range(into[0])])
                other[cell] = added(ahead, times(turn, onto)), added(behind, scaled(times(into, turn), -1))
            self.assertIs(is_splits(short, other), True)
            for cell in list(found)[:3]:
                self.assertIs(is_splits(short, {key: pair for key, pair in found.items() if key != cell}), False)
                self.assertIs(is_splits(short, {**found, cell: list(found[cell])}), False)
                self.assertIs(is_splits(short, {**found, cell: found[cell][::-1]}), exact_or_not(short, found, cell))
                if short.first.ranks[cell]:
                    worse = scaled(found[cell][0], 2), found[cell][1]
                    self.assertIs(is_splits(short, {**found, cell: worse}), False)
                if short.last.ranks[cell]:
                    worse = found[cell][0], scaled(found[cell][1], -1)
                    self.assertIs(is_splits(short, {**found, cell: worse}), False)
                if short.first.ranks[cell] and short.last.ranks[cell]:
                    turn = short.last.ranks[cell], tuple(
                        [some_row(short.last.ranks[cell], source, 3) for _ in range(short.first.ranks[cell])])
                    worse = added(found[cell][0], times(turn, short.onto[cell])), found[cell][1]
                    fits = exact_holds(short.into[cell], short.onto[cell], worse)
                    self.assertIs(is_splits(short, {**found, cell: worse}), fits)

    def test_judging(self):
        told = splits(S)
        check_judged(
            self, is_splits, (S,), [told],
            [{**told, (0, 1): ((1, ((True,),)), (0, ((),)))}, {**told, (9,): told[(0,)]}, tuple(told.items()),
             {**told, (0,): None}, {**told, (0,): ((1, ()),)}, {**told, (0,): ((1, ()), ONE, ONE)},
             {**told, (0,): ((1, ()), TWO)}, {**told, (0,): (ONE, ONE)}, {(0,): told[(0,)]}, {**told, 0: told[(0,)]}])
        for worse in (None, (), 0, ONE[1], (0, ()), (0, ((), ())), (1, ((0,),)), (1, ())):
            self.assertIs(is_splits(S, {**told, (0, 1): (told[(0, 1)][0], worse)}), False)
        for worse in (None, (), 0, ONE[1], ONE, (1, ((0,),)), (0, ()), (2, ())):
            self.assertIs(is_splits(S, {**told, (0,): (worse, told[(0,)][1])}), False)
        for worse in (None, (), 0, TWO, (1, ((1,), (0,))), (1, ((1,), (1,))), (2, ((1, 0),))):
            self.assertIs(is_splits(S, {**told, (0,): (told[(0,)][0], worse)}), False)
        check_wrong_short(self, splits, ())
        check_wrong_short(self, is_splits, (None,))
        pair = Short(T, table_sum(T, T), T, {c: (1, ((1,), (0,))) for c in EDGE}, {c: (2, ((0, 1),)) for c in EDGE})
        straight = ((2, ((1, 0),)), (1, ((0,), (1,))))
        bent = ((2, ((1, LONG),)), (1, ((-LONG,), (1,))))
        self.assertIs(is_splits(pair, {c: straight for c in EDGE}), True)
        self.assertIs(is_splits(pair, {**{c: straight for c in EDGE}, (0, 1): bent}), True)
        for worse in (
                ((2, ((1, LONG),)), (1, ((LONG,), (1,)))), ((2, ((1, 1),)), straight[1]), (straight[0], bent[1])):
            self.assertIs(is_splits(pair, {**{c: straight for c in EDGE}, (0, 1): worse}), False)


def exact_or_not(short, found, cell):
    """Whether the pair at the cell, the other way round, splits the row as well."""
    return exact_holds(short.into[cell], short.onto[cell], found[cell][::-1])


def check_wrong_short(case, function, rest):
    """What is no short exact row is refused ahead of all other arguments."""
    for wrong in (None, True, 0, "first", (), [], {}, TWIST, (FIRST, T, LAST, INTO, ONTO)):
        refusal(case, function, (wrong,) + rest, InvalidOperation)


class Raised(unittest.TestCase):
    def test_raised_ones(self):
        source, told = random.Random(2), 0
        for short in SHORTS:
            for degree in degrees_of(short.first):
                for telling in stills(short.last, degree, source):
                    value = raised(short, degree, telling)
                    self.assertTrue(is_raised_told(short, degree, telling, value))
                    self.assertIs(is_raised(short, degree, telling, value), True)
                    self.assertTrue(is_still_told(short.first, degree + 1, value[0]))
                    # Another telling of the middle table gives one that is alike.
                    more = some_row(sizes(short.first)[degree], source, 3)
                    origin = plus(value[1], moved(grid_at(short, "into", degree), more))
                    higher = plus(value[0], moved(rises(short.first, degree), more)) if value[0] else value[0]
                    if degree + 1 in degrees_of(short.first):
                        higher = plus(value[0], moved(rises(short.first, degree), more))
                    self.assertIs(is_raised(short, degree, telling, (higher, origin)), True)
                    if any(moved(rises(short.middle, degree), moved(grid_at(short, "into", degree), more))):
                        self.assertIs(is_raised(short, degree, telling, (value[0], origin)), False)
                        self.assertIs(is_raised(short, degree, telling, (higher, value[1])), False)
                        told += 1
                    self.assertIs(is_raised(short, degree, telling, list(value)), False)
                    self.assertIs(is_raised(short, degree, telling, value + ((),)), False)
                    self.assertIs(is_raised(short, degree, telling, (value[0], list(value[1]))), False)
                    if degree + 1 in degrees_of(short.first):
                        claim, _ = telling_answer(rows_of(short.last), degree, telling)
                        if claim[0] == "made":
                            claim, _ = telling_answer(rows_of(short.first), degree + 1, value[0])
                            self.assertEqual(claim[0], "made")
                    else:
                        self.assertEqual(value[0], ())
        self.assertGreater(told, 40)

    def test_judging(self):
        check_judged(
            self, is_raised, (S, 0, (3, 5)), [((2,), (3, 5))],
            [((2,), (4, 5)), ((3,), (3, 5)), ((2,), [3, 5]), ((2,),), ((2, 0), (3, 5)), ((2,), (3, 5, 0)),
             ((2,), (3, 5), ()), ((True,), (3, 5)), ((), (3, 5)), (None, None)])
        check_judged(self, is_raised, (S, 0, (0, 1)), [((1,), (0, 1))], [((True,), (0, 1)), ((1,), (False, True))])
        check_judged(self, is_raised, (S, 1, ()), [((), (LONG,)), ((), (0,))], [((), ()), ((0,), (0,))])
        pair = Short(T, table_sum(T, T), T, {c: (1, ((1,), (0,))) for c in EDGE}, {c: (2, ((0, 1),)) for c in EDGE})
        self.assertIs(is_raised(pair, 0, (4, 4), ((-LONG,), (LONG, 4, 0, 4))), True)
        self.assertIs(is_raised(pair, 0, (4, 4), ((LONG,), (LONG, 4, 0, 4))), False)


class Origins(unittest.TestCase):
    def test_both_sides(self):
        source, kinds, bad = random.Random(3), [], 0
        for short in SHORTS:
            for word in ("first", "middle", "last"):
                table = table_of(short, word)
                for degree in degrees_of(table):
                    for telling in stills(table, degree, source, 2):
                        value = origin_of(short, word, degree, telling)
                        self.assertTrue(is_origin_told(short, word, degree, telling, value))
                        self.assertIs(is_origin(short, word, degree, telling, value), True)
                        kinds.append((word, value[0], degree > 0, value[0] == "to" and value[-2] > 0))
                        bad += self.check_near(short, word, degree, telling, value, source)
        for word in ("first", "middle", "last"):
            for kind in ("from", "to"):
                self.assertGreater(len([told for told in kinds if told[:2] == (word, kind)]), 10, (word, kind))
            self.assertIn((word, "to", True, True), kinds)
        self.assertGreater(bad, 300)

    def check_near(self, short, word, degree, telling, value, source):
        """Values that are nearly an answer are judged as sums and products tell."""
        bad = 0
        for at in range(1, len(value)):
            if isinstance(value[at], tuple):
                for place in range(len(value[at])):
                    number = value[at][place] + source.choice((1, -1, 2))
                    changed = value[at][:place] + (number,) + value[at][place + 1:]
                    near = value[:at] + (changed,) + value[at + 1:]
                    told = is_origin_told(short, word, degree, telling, near)
                    self.assertIs(is_origin(short, word, degree, telling, near), told)
                    bad += not told
                self.assertIs(
                    is_origin(short, word, degree, telling, value[:at] + (value[at] + (0,),) + value[at + 1:]), False)
            else:
                for number in (-1, 0, 1, 2, 6, True, None):
                    near = value[:at] + (number,) + value[at + 1:]
                    told = type(number) is int and is_origin_told(short, word, degree, telling, near)
                    self.assertIs(is_origin(short, word, degree, telling, near), told)
            self.assertIs(is_origin(short, word, degree, telling, value[:at] + (None,) + value[at + 1:]), False)
        for near in (list(value), value + ((),), value[:-1], value[1:], ("to",) + value[1:] if value[0] == "from" else
                     ("from",) + value[1:], (None,) + value[1:]):
            self.assertIs(is_origin(short, word, degree, telling, near), False)
        return bad

    def test_other_answers(self):
        self.assertIs(is_origin(S, "last", 0, (3, 5), ("to", (2,), (3, 5), 0, (1,))), True)
        self.assertIs(is_origin(S, "last", 0, (3, 5), ("to", (2,), (3, 5), 3, (1,))), True)
        self.assertIs(is_origin(S, "last", 0, (3, 5), ("to", (2,), (3, 5), 2, (1,))), False)
        self.assertIs(is_origin(S, "last", 0, (3, 5), ("to", (2,), (3, 5), 3, (LONG,))), True)
        self.assertIs(is_origin(S, "last", 0, (3, 5), ("to", (1,), (3, 5), 3, (1,))), False)
        self.assertIs(is_origin(S, "middle", 1, (7,), ("from", (5,), (-2, 0))), True)
        self.assertIs(is_origin(S, "middle", 1, (7,), ("from", (5,), (2, 0))), False)
        self.assertIs(is_origin(S, "first", 1, (7,), ("from", (0, 7), (0, 7), ())), True)
        self.assertIs(is_origin(S, "first", 1, (7,), ("from", (1, 8), (1, 8), ())), True)
        self.assertIs(is_origin(S, "first", 1, (7,), ("from", (1, 7), (1, 8), ())), False)
        self.assertIs(is_origin(S, "first", 0, (), ("from", (), (), ())), True)
        self.assertIs(is_origin(S, "middle", 0, (0, 0), ("from", (), ())), True)
        check_judged(self, is_origin, (S, "last", 0, (4, 4)), [("from", (4, 4), ())], [
            ("from", (4, 5), ()), ("from", (4, 4), (0,)), ("from", (4, 4)), ["from", (4, 4), ()], ("to", (4, 4), ())])

    def test_a_triangle(self):
        short = Short(*parted_triangle(PATH))
        self.assertEqual(group(rows_of(short.first), 2), (0, (2,)))
        value = origin_of(short, "last", 1, (1, 0))
        self.assertEqual((value[0], value[3] % 2), ("to", 0))
        self.assertTrue(is_origin_told(short, "last", 1, (1, 0), value))
        self.assertEqual(origin_of(short, "last", 1, (1, 1))[0], "from")
        whole = Short(*parted_triangle(ROUND))
        value = origin_of(whole, "last", 1, (1, 0, 0))
        self.assertEqual((value[0], value[3]), ("to", 0))
        self.assertTrue(is_origin_told(whole, "last", 1, (1, 0, 0), value))

    def test_odd_values(self):
        for word, degree, telling in (
                ("first", 0, ()), ("first", 1, (7,)), ("middle", 0, (4, 4)), ("middle", 1, (7,)), ("last", 0, (4, 4)),
                ("last", 0, (3, 5)), ("last", 1, ())):
            for kind in ("from", "to", None, 0):
                for rest in ((), (None,), (None,) * 2, (None,) * 3, (None,) * 4, (0,) * 5, ((),), ((), ()), ((2,),)):
                    if (kind, rest) != ("from", ((), ())):
                        self.assertIs(is_origin(S, word, degree, telling, (kind,) + rest), False)
            for value in ODD:
                self.assertIs(is_origin(S, word, degree, telling, value), False)

    def test_greatest_degree(self):
        self.assertEqual(origin_of(S, "last", 1, ()), ("from", (0,), (0, 0)))
        for short in SHORTS:
            last = max(degrees_of(short.first))
            for telling in stills(short.last, last, random.Random(4)):
                self.assertEqual(origin_of(short, "last", last, telling)[0], "from")

    def test_exactness_by_grids(self):
        # What the maps of groups come to is what the next ones lead to noughts, as far as coordinates tell.
        source = random.Random(5)
        for short in SHORTS:
            first, middle, last = rows_of(short.first), rows_of(short.middle), rows_of(short.last)
            into, onto = rows_map(short.first, short.middle, short.into), rows_map(short.middle, short.last, short.onto)
            for degree in degrees_of(short.first):
                ahead, behind = led_group(first, middle, into, degree), led_group(middle, last, onto, degree)
                moduli = [m for m, _ in Makers(last, degree).readings]
                for column in range(ahead[0]):
                    row = moved(behind, tuple([line[column] for line in ahead[1]]))
                    self.assertTrue(all([is_zero(number, m) for number, m in zip(row, moduli)]))
                for telling in stills(short.middle, degree, source):
                    made = telling_answer(last, degree, moved(onto[degree], telling))[0][0] == "made"
                    self.assertEqual(origin_of(short, "middle", degree, telling)[0], "from" if made else "to")


class Ranks(unittest.TestCase):
    def test_turns(self):
        uneven = 0
        for short in SHORTS:
            found = long_ranks(short)
            told = [group(rows_of(table), degree) for degree in degrees_of(short.first)
                    for table in (short.first, short.middle, short.last)]
            self.assertEqual(found, tuple([rank for rank, _ in told]))
            self.assertEqual(sum([(-1) ** at * rank for at, rank in enumerate(found)]), 0)
            counts = [0, 0, 0]
            for at, (_, divisors) in enumerate(told):
                counts[at % 3] += len(divisors)
            uneven += counts[0] + counts[2] != counts[1]
        self.assertGreater(uneven, 0)
        self.assertEqual(long_ranks(SHORTS[-1]), (0, 0, 0))

    def test_not_true(self):
        # [12.5]: what is raised can be made; and no map leads back from the last table so that onto gives the unit.
        first = constant(EDGE, 0)
        short = Short(first, T, T, {c: (0, ((),)) for c in EDGE}, SAME)
        self.assertEqual(raised(short, 0, (2, 2)), ((), (2, 2)))


class Wrong(unittest.TestCase):
    def test_shorts(self):
        for function, rest in (
                (long_ranks, ()), (raised, (0, (3, 5))), (is_raised, (0, (3, 5), None)),
                (origin_of, ("last", 0, (3, 5))), (is_origin, ("last", 0, (3, 5), None))):
            function(S, *rest)
            check_wrong_short(self, function, rest)
            check_wrong_short(self, function, (None,) * len(rest))

    def test_words(self):
        for word in (None, True, 0, "", "First", "first ", "into", (), [], {}, ("first",), TWIST, S):
            refusal(self, origin_of, (S, word, None, None), InvalidOperation)
            refusal(self, is_origin, (S, word, None, None, None), InvalidOperation)

    def test_degrees(self):
        for degree in WRONG_INTEGERS + (-1, 2):
            for caught in (
                    refusal(self, raised, (S, degree, None), InvalidNumber),
                    refusal(self, is_raised, (S, degree, None, None), InvalidNumber),
                    refusal(self, origin_of, (S, "first", degree, None), InvalidNumber),
                    refusal(self, is_origin, (S, "last", degree, None, None), InvalidNumber)):
                self.assertIs(caught.given, degree)
        empty = SHORTS[-1]
        self.assertEqual(refusal(self, raised, (empty, 1, ()), InvalidNumber).given, 1)
        self.assertEqual(raised(empty, 0, ()), ((), ()))
        for word in ("first", "middle", "last"):
            value = origin_of(empty, word, 0, ())
            self.assertEqual(value, ("from", (), (), ()) if word == "first" else ("from", (), ()))
            self.assertIs(is_origin(empty, word, 0, (), value), True)

    def test_tellings(self):
        for wrong in WRONG["telling"][1] + ((), (1,), (1, 2, 3), (10 ** 12, 10 ** 12)):
            refusal(self, raised, (S, 0, wrong), InvalidTelling)
            refusal(self, is_raised, (S, 0, wrong, None), InvalidTelling)
            refusal(self, origin_of, (S, "middle", 0, wrong), InvalidTelling)
            refusal(self, is_origin, (S, "last", 0, wrong, None), InvalidTelling)
        refusal(self, origin_of, (S, "first", 0, (1, 1)), InvalidTelling)
        refusal(self, origin_of, (S, "first", 1, ()), InvalidTelling)
        # The telling has to be still.
        pair = Short(T, table_sum(T, T), T, {c: (1, ((1,), (0,))) for c in EDGE}, {c: (2, ((0, 1),)) for c in EDGE})
        refusal(self, raised, (pair, 0, (1, 2)), InvalidOperation)
        refusal(self, is_raised, (pair, 0, (1, 2), None), InvalidOperation)
        refusal(self, origin_of, (pair, "first", 0, (1, 2)), InvalidOperation)
        refusal(self, origin_of, (pair, "middle", 0, (1, 2, 1, 3)), InvalidOperation)
        refusal(self, is_origin, (pair, "last", 0, (1, 2), None), InvalidOperation)
        self.assertEqual(raised(S, 0, (10 ** 12 - 1, 1 - 10 ** 12))[0], (2 - 2 * 10 ** 12,))


if __name__ == "__main__":
    unittest.main()
