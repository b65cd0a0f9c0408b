"""Maps of bare rows and of tables [11.1] to [11.6]."""

import random
import unittest

from gluewhole.base.made import plain_kernel
from gluewhole.errors import InvalidMap, InvalidNumber, InvalidOperation, InvalidRows, InvalidTable, InvalidTelling
from gluewhole.rows.maps import (
    image_table, is_image_table, is_kernel_table, is_rows_map, is_table_map, kernel_table, led, led_group, led_on,
    one_to_one_answer, onto_answer, rows_map)
from gluewhole.tables.groups import Makers, Rows, alike_answer, group, is_still_row, rise_of, rows_of, telling_answer
from gluewhole.tables.tables import constant, inside, outside, table_sum
from gluewhole.tables.tellings import on_cells, part
from tests.helper import (
    EDGE, FILLED, LESS, ONE, ROUND, TWIST, TWO, WRONG, WRONG_INTEGERS, WRONG_TABLES, added, check_judged, check_wrong,
    degrees_of, grow_noughts, holds, known_rows, moved, nought, random_maps, refusal, rows_of_blocks, scaled, some_row,
    times, transposed, turned_by, undone_pair, unit)

HALF, QUARTER, STEP = Rows((1, 1), (TWO,)), Rows((1, 1), ((1, ((4,),)),)), (ONE, TWO)
PLAIN, BENT = rows_of(constant(ROUND, 1)), rows_of(TWIST)
T, DOUBLE, SAME = constant(ROUND, 1), {cell: TWO for cell in ROUND}, {cell: ONE for cell in ROUND}
LONG = 10 ** 30


def plain_same(rows):
    """The map that leads all tellings to themselves."""
    return tuple([unit(size) for size in rows.sizes])


def homotopy(one, other, source, most=2):
    """A map of rows that leads still tellings to made ones: steps ahead of and behind the grids."""
    steps = [tuple([some_row(high, source, most) for _ in range(low)]) for low, high in zip(other.sizes, one.sizes[1:])]
    steps = [(high, rows) for high, rows in zip(one.sizes[1:], steps)]
    found = []
    for degree, (low, high) in enumerate(zip(one.sizes, other.sizes)):
        grid = nought(high, low)
        if degree > 0:
            grid = added(grid, times(other.grids[degree - 1], steps[degree - 1]))
        if degree + 1 < len(one):
            grid = added(grid, times(steps[degree], one.grids[degree]))
        found.append(grid)
    return tuple(found)


def cases(seed, many=40):
    """Triples (one, other, lead) of bare rows and a map: multiples, steps, turns, parts put in and taken out."""
    source, found = random.Random(seed), [(HALF, QUARTER, STEP), (QUARTER, HALF, (TWO, ONE))]
    for rows, _ in known_rows(seed, many, 5):
        number = source.choice((0, 1, -1, 2, 3, 6))
        lead = tuple([added(scaled(unit(size), number), grid) for size, grid in
                      zip(rows.sizes, homotopy(rows, rows, source))])
        found.append((rows, rows, lead))
        turns = [undone_pair(size, source) for size in rows.sizes]
        grids = tuple([times(times(turns[d + 1][0], grid), turns[d][1]) for d, grid in enumerate(rows.grids)])
        turned = Rows(rows.sizes, grids)
        found.append((rows, turned, tuple([times(turn, grid) for (turn, _), grid in zip(turns, lead)])))
    for _ in range(many // 2):
        degrees = source.randint(2, 3)
        blocks = [(source.randrange(degrees - 1), source.choice((0, 1, 2, 4, 6))) for _ in range(3)]
        rows, _ = rows_of_blocks(blocks, degrees, source)
        more, _ = rows_of_blocks([(degrees - 1, 0), (0, 2), (0, 0)], degrees, source)
        both = tuple([join(low, high) for low, high in zip(rows.grids, more.grids)])
        both = Rows(tuple([a + b for a, b in zip(rows.sizes, more.sizes)]), both)
        into = tuple([(a, unit(a)[1] + nought(b, a)[1]) for a, b in zip(rows.sizes, more.sizes)])
        onto = tuple([(a + b, tuple([row + (0,) * b for row in unit(a)[1]])) for a, b in zip(rows.sizes, more.sizes)])
        found += [(rows, both, into), (both, rows, onto)]
    for one, _ in known_rows(seed + 1, many // 2, 4):
        other = Rows(one.sizes[::-1], tuple([nought(low, high) for low, high in zip(one.sizes, one.sizes[1:])][::-1]))
        found.append((one, other, homotopy(one, other, source)))
    return found


def join(one, other):
    """The grid that leads the first numbers by the first grid, and the last ones by the second grid."""
    return one[0] + other[0], tuple(
        [row + (0,) * other[0] for row in one[1]] + [(0,) * one[0] + row for row in other[1]])


CASES = cases(111)


def degrees(rows):
    """The degrees of bare rows."""
    return range(len(rows))


def still_ones(rows, degree, source, many=3):
    """A few still tellings."""
    base = transposed(plain_kernel(rows.grid(degree)))[1]
    found = []
    for _ in range(many):
        row = (0,) * rows.sizes[degree]
        for one in base:
            number = source.randint(-2, 2)
            row = tuple([a + number * b for a, b in zip(row, one)])
        found.append(row)
    return found


class Examples(unittest.TestCase):
    def test_maps(self):
        self.assertEqual(
            [is_rows_map(HALF, QUARTER, STEP), is_rows_map(HALF, QUARTER, (ONE, ONE)),
             led(HALF, QUARTER, STEP, 1, (3,)), led_group(HALF, QUARTER, STEP, 1)],
            [True, False, (6,), (1, ((2,),))])

    def test_answers(self):
        self.assertEqual(
            [one_to_one_answer(HALF, QUARTER, STEP, 1)[0], onto_answer(HALF, QUARTER, STEP, 1)[0][0],
             one_to_one_answer(QUARTER, HALF, (TWO, ONE), 1)[0][0]],
            [("one to one", (1, ((2,),)), (1, ()), (1, ((4,),)), (1, ((2,),))), "missed", "lost"])

    def test_tables(self):
        self.assertEqual(
            [kernel_table(T, T, DOUBLE)[0].ranks[(0, 1)], is_image_table(T, T, DOUBLE, (T, SAME, DOUBLE)),
             is_image_table(T, T, DOUBLE, (T, DOUBLE, SAME))],
            [0, True, False])

    def test_one_that_raises(self):
        refusal(self, led, (HALF, QUARTER, (ONE, ONE), 1, (3,)), InvalidMap)


class RowsMaps(unittest.TestCase):
    def test_judging(self):
        for one, other, lead in CASES:
            self.assertIs(is_rows_map(one, other, lead), True)
            self.assertIs(is_rows_map(one, other, list(lead)), False)
            self.assertIs(is_rows_map(one, other, lead[1:]), False)
            self.assertIs(is_rows_map(one, other, lead + lead[:1]), False)
            for degree in degrees(one):
                width, rows = lead[degree]
                for place in range(len(rows)):
                    for at in range(width):
                        worse = tuple(rows[place][:at] + (rows[place][at] + 1,) + rows[place][at + 1:])
                        grid = width, rows[:place] + (worse,) + rows[place + 1:]
                        changed = lead[:degree] + (grid,) + lead[degree + 1:]
                        fits = all([
                            times(changed[d + 1], one.grids[d]) == times(other.grids[d], changed[d])
                            for d in range(len(one) - 1)])
                        self.assertIs(is_rows_map(one, other, changed), fits)
        check_judged(
            self, is_rows_map, (HALF, QUARTER), [STEP, ((1, ((LONG,),)), (1, ((2 * LONG,),))), (nought(1, 1),) * 2],
            [(ONE, ONE), (ONE,), (ONE, TWO, ONE), ((1, ((True,),)), TWO), (ONE, (1, [(2,)])), [ONE, TWO],
             (ONE, (2, ((2,),))), ((2, ((1, 1),)), TWO), ((1, ((1,), (1,))), TWO), (ONE, None)])
        empty = Rows((0, 1), ((0, ((),)),))
        check_judged(self, is_rows_map, (empty, empty), [((0, ()), TWO)], [(ONE, ONE), ((0, ()), (0, ()))])

    def test_led(self):
        source = random.Random(1)
        for one, other, lead in CASES:
            for degree in degrees(one):
                row = some_row(one.sizes[degree], source)
                found = led(one, other, lead, degree, row)
                self.assertEqual(found, moved(lead[degree], row))
                if degree + 1 < len(one):
                    rises = rise_of(other, degree, found), rise_of(one, degree, row)
                    self.assertEqual(rises[0], led(one, other, lead, degree + 1, rises[1]))
                for still in still_ones(one, degree, source):
                    self.assertTrue(is_still_row(other, degree, led(one, other, lead, degree, still)))
                if degree > 0:
                    made = rise_of(one, degree - 1, some_row(one.sizes[degree - 1], source))
                    claim, _ = telling_answer(other, degree, led(one, other, lead, degree, made))
                    self.assertEqual(claim[0], "made")
        self.assertEqual(led(HALF, QUARTER, STEP, 1, (LONG,)), (2 * LONG,))

    def test_led_on(self):
        source = random.Random(2)
        for one, other, lead in CASES:
            back = tuple([scaled(grid, 3) for grid in homotopy(other, one, source)])
            self.assertEqual(led_on(one, other, one, lead, back), tuple([times(b, a) for a, b in zip(lead, back)]))
            self.assertIs(is_rows_map(one, one, led_on(one, other, one, lead, back)), True)
            self.assertEqual(led_on(one, one, other, plain_same(one), lead), lead)

    def test_groups(self):
        source = random.Random(3)
        for one, other, lead in CASES:
            for degree in degrees(one):
                grid = led_group(one, other, lead, degree)
                ahead, behind = Makers(one, degree), Makers(other, degree)
                self.assertEqual((grid[0], len(grid[1])), (len(ahead), len(behind)))
                moduli = [m for m, _ in behind.readings]
                for telling in still_ones(one, degree, source):
                    told = moved(grid, ahead.coordinates(telling))
                    told = tuple([n % m if m else n for n, m in zip(told, moduli)])
                    self.assertEqual(told, behind.coordinates(led(one, other, lead, degree, telling)))
                columns = [behind.coordinates(led(one, other, lead, degree, maker)) for maker in ahead.makers]
                self.assertEqual(transposed(grid)[1], tuple(columns))


class Answers(unittest.TestCase):
    def test_one_to_one(self):
        kinds = []
        for one, other, lead in CASES:
            for degree in degrees(one):
                claim, paper = one_to_one_answer(one, other, lead, degree)
                self.assertEqual(
                    claim[1:], (one.grid(degree - 1), one.grid(degree), other.grid(degree - 1), lead[degree]))
                self.assertTrue(holds(claim, paper))
                kinds.append(claim[0])
                if claim[0] == "lost":
                    telling = paper[0]
                    self.assertTrue(is_still_row(one, degree, telling))
                    self.assertEqual(telling_answer(one, degree, telling)[0][0], "barred")
                    image = led(one, other, lead, degree, telling)
                    self.assertEqual(telling_answer(other, degree, image)[0][0], "made")
        self.assertGreater(kinds.count("one to one"), 50)
        self.assertGreater(kinds.count("lost"), 30)

    def test_onto(self):
        kinds = []
        for one, other, lead in CASES:
            for degree in degrees(one):
                claim, paper = onto_answer(one, other, lead, degree)
                self.assertEqual(
                    claim[1:], (one.grid(degree), other.grid(degree - 1), other.grid(degree), lead[degree]))
                self.assertTrue(holds(claim, paper))
                kinds.append(claim[0])
                if claim[0] == "missed":
                    telling, _, _, m, row = paper
                    self.assertTrue(is_still_row(other, degree, telling))
                    for maker in Makers(one, degree).makers:
                        image = led(one, other, lead, degree, maker)
                        self.assertEqual(alike_answer(other, degree, telling, image)[0][0], "barred")
        self.assertGreater(kinds.count("onto"), 50)
        self.assertGreater(kinds.count("missed"), 30)

    def test_the_same_groups(self):
        # A map of equal groups that is one to one and onto has a grid of coordinates that is so.
        for one, other, lead in CASES:
            for degree in degrees(one):
                both = [one_to_one_answer(one, other, lead, degree)[0][0], onto_answer(one, other, lead, degree)[0][0]]
                if both == ["one to one", "onto"]:
                    self.assertEqual(group(one, degree), group(other, degree))
                if both[1] == "onto" and group(one, degree) == group(other, degree):
                    self.assertEqual(both[0], "one to one")

    def test_edges(self):
        none = Rows((0,), ())
        self.assertTrue(holds(*one_to_one_answer(none, none, ((0, ()),), 0)))
        self.assertTrue(holds(*onto_answer(none, none, ((0, ()),), 0)))
        one = Rows((1,), ())
        claim, paper = onto_answer(none, one, ((0, ((),)),), 0)
        self.assertEqual(claim[0], "missed")
        self.assertTrue(holds(claim, paper))
        claim, paper = one_to_one_answer(one, none, ((1, ()),), 0)
        self.assertEqual((claim[0], paper[:2]), ("lost", ((1,), ())))
        self.assertTrue(holds(claim, paper))
        long = Rows((1, 1), ((1, ((LONG,),)),)), Rows((1, 1), ((1, ((LONG * LONG,),)),)), (ONE, (1, ((LONG,),)))
        self.assertEqual(one_to_one_answer(*long, 1)[0][0], "one to one")
        self.assertTrue(holds(*one_to_one_answer(*long, 1)))
        self.assertEqual(onto_answer(*long, 1)[0][0], "missed")
        self.assertTrue(holds(*onto_answer(*long, 1)))
        self.assertEqual(led_group(*long, 1), (1, ((LONG,),)))

    def test_greatest_sizes(self):
        source = random.Random(112)
        blocks = [(0, 2)] * 8 + [(0, 1)] * 6 + [(0, 0)] * 3 + [(1, 0)] * 4 + [(1, 4)] * 6
        rows, _ = rows_of_blocks(blocks, 3, source, 40)
        steps = homotopy(rows, rows, source)
        lead = tuple([added(scaled(unit(size), 2), grid) for size, grid in zip(rows.sizes, steps)])
        for degree in range(3):
            self.assertTrue(holds(*one_to_one_answer(rows, rows, lead, degree)))
            self.assertTrue(holds(*onto_answer(rows, rows, lead, degree)))

    def test_not_true(self):
        # [11.6]: all grids of STEP lead just noughts to noughts; into degree 1, where PLAIN has a rank, not one to one.
        edge = constant(EDGE, 1)
        into = {cell: (0, ((),)) if len(cell) == 1 else ONE for cell in EDGE}
        lead = rows_map(outside(edge, ((0,), (1,))), edge, into)
        self.assertEqual(
            one_to_one_answer(rows_of(outside(edge, ((0,), (1,)))), rows_of(edge), lead, 1)[0][0], "lost")
        onto = {cell: ONE if len(cell) == 1 else (1, ()) for cell in EDGE}
        lead = rows_map(edge, inside(edge, ((0,), (1,))), onto)
        self.assertEqual(onto_answer(rows_of(edge), rows_of(inside(edge, ((0,), (1,)))), lead, 0)[0][0], "missed")


MAPS = [(T, T, DOUBLE), (T, T, SAME), (TWIST, TWIST, DOUBLE)] + random_maps(113, 40)


def columns_base(grid):
    """Whether the columns do not depend on one another."""
    return plain_kernel(grid)[0] == 0


class TableMaps(unittest.TestCase):
    def test_judging(self):
        for one, other, lead in MAPS:
            self.assertIs(is_table_map(one, other, lead), True)
            self.assertIs(is_table_map(one, other, {cell: lead[cell] for cell in reversed(list(lead))}), True)
            for cell in list(one.space)[:4]:
                less = {key: grid for key, grid in lead.items() if key != cell}
                self.assertIs(is_table_map(one, other, less), False)
                width, rows = lead[cell]
                if width and rows:
                    changed = {**lead, cell: (width, ((rows[0][0] + 1,) + rows[0][1:],) + rows[1:])}
                    fits = all([
                        times(changed[to], grid) == times(other.maps[(face, to)], changed[face])
                        for (face, to), grid in one.maps.items()])
                    self.assertIs(is_table_map(one, other, changed), fits)
                    self.assertIs(is_table_map(one, other, {**lead, cell: (width, rows + rows[:1])}), False)
        check_judged(
            self, is_table_map, (T, T), [SAME, DOUBLE, {cell: (1, ((LONG,),)) for cell in ROUND}],
            [{**SAME, (0, 1): TWO}, {**SAME, (9,): ONE}, {**SAME, (0,): None}, {**SAME, (0,): (1, ((True,),))},
             {**SAME, (0,): (1, [(1,)])}, {cell: ONE for cell in ROUND[1:]}, tuple(SAME.items()), {**SAME, 0: ONE}])
        check_judged(self, is_table_map, (constant((), 1), constant((), 2)), [{}], [{(0,): ONE}])

    def test_rows_maps(self):
        source = random.Random(4)
        for one, other, lead in MAPS:
            found = rows_map(one, other, lead)
            self.assertIs(is_rows_map(rows_of(one), rows_of(other), found), True)
            for degree in degrees_of(one):
                row = some_row(rows_of(one).sizes[degree], source)
                told = {cell: moved(lead[cell], part(one, degree, row, cell))
                        for cell in one.space if len(cell) == degree + 1}
                self.assertEqual(moved(found[degree], row), on_cells(other, degree, told))
        self.assertEqual(rows_map(constant((), 1), constant((), 1), {}), ((0, ()),))
        self.assertEqual(rows_map(T, T, DOUBLE), (scaled(unit(3), 2),) * 2)

    def test_kernels(self):
        source, ranks = random.Random(5), []
        for one, other, lead in MAPS:
            value = kernel_table(one, other, lead)
            table, into = value
            self.assertEqual(table.space, one.space)
            self.assertEqual(list(into), sorted(into))
            self.assertIs(is_table_map(table, one, into), True)
            self.assertIs(is_kernel_table(one, other, lead, value), True)
            for cell in one.space:
                ranks.append(table.ranks[cell])
                self.assertTrue(grow_noughts(lead[cell], into[cell]))
                self.assertTrue(columns_base(into[cell]))
                self.assertEqual(into[cell][0], plain_kernel(lead[cell])[0])
            frames = {cell: undone_pair(rank, source, 2) for cell, rank in table.ranks.items()}
            turned = turned_by(table, frames)
            changed = {cell: times(into[cell], frames[cell][1]) for cell in one.space}
            self.assertIs(is_kernel_table(one, other, lead, (turned, changed)), True)
            if any(table.ranks.values()):
                doubled = {cell: scaled(into[cell], 2) for cell in one.space}
                self.assertIs(is_kernel_table(one, other, lead, (table, doubled)), False)
                self.assertIs(is_kernel_table(one, other, lead, (constant(one.space, 0), {
                    cell: nought(one.ranks[cell], 0) for cell in one.space})), False)
            self.assertIs(is_kernel_table(one, other, lead, list(value)), False)
            self.assertIs(is_kernel_table(one, other, lead, value + ((),)), False)
        self.assertTrue({0, 1, 2} <= set(ranks))

    def test_images(self):
        source, ranks = random.Random(6), []
        for one, other, lead in MAPS:
            value = image_table(one, other, lead)
            table, onto, into = value
            self.assertEqual([list(onto), list(into)], [sorted(onto), sorted(into)])
            self.assertIs(is_table_map(one, table, onto), True)
            self.assertIs(is_table_map(table, other, into), True)
            self.assertIs(is_image_table(one, other, lead, value), True)
            for cell in one.space:
                ranks.append(table.ranks[cell])
                self.assertEqual(times(into[cell], onto[cell]), lead[cell])
                self.assertTrue(columns_base(into[cell]))
            frames = {cell: undone_pair(rank, source, 2) for cell, rank in table.ranks.items()}
            turned = turned_by(table, frames)
            ahead = {cell: times(frames[cell][0], onto[cell]) for cell in one.space}
            behind = {cell: times(into[cell], frames[cell][1]) for cell in one.space}
            self.assertIs(is_image_table(one, other, lead, (turned, ahead, behind)), True)
            if any(table.ranks.values()):
                doubled = {cell: scaled(onto[cell], 2) for cell in one.space}
                self.assertIs(is_image_table(one, other, lead, (table, doubled, into)), False)
            self.assertIs(is_image_table(one, other, lead, value[:2]), False)
            self.assertIs(is_image_table(one, other, lead, list(value)), False)
        self.assertTrue({0, 1, 2} <= set(ranks))

    def test_judging_kernels_and_images(self):
        nothing = constant(ROUND, 0)
        none = {cell: (0, ((),)) for cell in ROUND}
        away = {cell: (1, ()) for cell in ROUND}
        check_judged(
            self, is_kernel_table, (T, T, DOUBLE), [(nothing, none)],
            [(T, SAME), (nothing, away), (nothing,), [nothing, none], (nothing, none, none), (none, nothing)])
        check_judged(
            self, is_kernel_table, (T, nothing, away), [(T, SAME), (T, {cell: LESS for cell in ROUND})],
            [(T, DOUBLE), (nothing, none), (TWIST, SAME), (T, {**SAME, (0,): LESS})])
        check_judged(
            self, is_image_table, (T, T, DOUBLE), [(T, SAME, DOUBLE), (T, {cell: LESS for cell in ROUND}, {
                cell: (1, ((-2,),)) for cell in ROUND})],
            [(T, DOUBLE, SAME), (T, DOUBLE, DOUBLE), (T, SAME, SAME), (TWIST, SAME, DOUBLE), (T, SAME),
             (nothing, away, none)])
        check_judged(self, is_image_table, (T, nothing, away), [(nothing, away, {cell: (0, ()) for cell in ROUND})])
        # The image of rank 1 in rank 2, and a pair of maps with one rank too many.
        pair = table_sum(T, T)
        both = {cell: (1, ((2,), (4,))) for cell in ROUND}
        check_judged(
            self, is_image_table, (T, pair, both), [(T, SAME, both)],
            [(T, DOUBLE, {cell: (1, ((1,), (2,))) for cell in ROUND}),
             (pair, {cell: (1, ((1,), (2,))) for cell in ROUND}, {cell: (2, ((2, 0), (0, 2))) for cell in ROUND})])
        # More columns than a base has; columns that are not led to noughts.
        wide, ahead = {cell: (2, ((1, 0),)) for cell in ROUND}, {cell: (2, ((1, 0),)) for cell in ROUND}
        self.assertIs(is_kernel_table(T, nothing, away, (pair, wide)), False)
        check_judged(
            self, is_kernel_table, (pair, T, ahead), [(T, {cell: (1, ((0,), (-1,))) for cell in ROUND})],
            [(T, {cell: (1, ((1,), (1,))) for cell in ROUND}), (T, {cell: (1, ((0,), (2,))) for cell in ROUND}),
             (pair, {cell: (2, ((0, 0), (1, 1))) for cell in ROUND})])
        # Onto the whole of a table that leads more than noughts to noughts.
        same = {cell: unit(2) for cell in ROUND}
        check_judged(self, is_image_table, (pair, T, ahead), [(T, ahead, SAME)], [(pair, same, ahead)])
        # Tables on other spaces, and values that are no maps.
        for space in (FILLED, EDGE):
            told = {cell: ONE for cell in space}
            self.assertIs(is_kernel_table(T, T, DOUBLE, (constant(space, 0), none)), False)
            self.assertIs(is_kernel_table(T, T, DOUBLE, (constant(space, 0), {c: (0, ((),)) for c in space})), False)
            self.assertIs(is_kernel_table(T, nothing, away, (constant(space, 1), told)), False)
            for value in ((constant(space, 1), SAME, SAME), (constant(space, 1), told, told)):
                self.assertIs(is_image_table(T, T, SAME, value), False)
        for worse in (None, (), {}, 0, {**SAME, (9,): ONE}, {**SAME, (0,): None}, {**SAME, (0,): TWO}, tuple(SAME)):
            self.assertIs(is_image_table(T, T, SAME, (T, worse, SAME)), False)
            self.assertIs(is_image_table(T, T, SAME, (T, SAME, worse)), False)
            self.assertIs(is_kernel_table(T, nothing, away, (T, worse)), False)
        for worse in (None, (), 0, ROUND, PLAIN):
            self.assertIs(is_image_table(T, T, SAME, (worse, SAME, SAME)), False)
            self.assertIs(is_kernel_table(T, nothing, away, (worse, SAME)), False)
        self.assertIs(is_kernel_table(constant((), 1), constant((), 2), {}, (constant((), 0), {})), True)
        self.assertIs(is_image_table(constant((), 1), constant((), 2), {}, (constant((), 0), {}, {})), True)

    def test_what_is_passed_stays(self):
        lead = {cell: TWO for cell in reversed(ROUND)}
        table, onto, into = image_table(T, T, lead)
        onto[(0,)] = None
        kernel_table(T, T, lead)[1][(0,)] = None
        self.assertEqual(lead, DOUBLE)
        self.assertEqual(list(lead), list(reversed(ROUND)))
        self.assertEqual(image_table(T, T, lead)[1][(0,)], ONE)
        self.assertEqual(table.ranks, T.ranks)


class Wrong(unittest.TestCase):
    def test_rows(self):
        WRONG["rows map"] = (InvalidMap, (
            None, True, 0, "", (), [], {}, (ONE,), (ONE, TWO, ONE), [ONE, TWO], (ONE, ONE), (ONE, (1, [(2,)])), TWIST,
            (TWO, (1, ((True,),))), (None, None), SAME))
        WRONG["one telling"] = (InvalidTelling, WRONG["long telling"][1] + ((), (1, 2)))
        kinds = ("rows", "rows", "rows map", "degree 1", "one telling")
        check_wrong(self, led, (HALF, QUARTER, STEP, 1, (3,)), kinds)
        for function in (led_group, one_to_one_answer, onto_answer):
            check_wrong(self, function, (HALF, QUARTER, STEP, 1), kinds[:4])
        check_wrong(self, is_rows_map, (HALF, QUARTER, None), ("rows", "rows", None))
        kinds = ("rows", "rows", "rows", "rows map", None)
        check_wrong(self, led_on, (HALF, QUARTER, QUARTER, STEP, (ONE, ONE)), kinds)
        for last in WRONG["rows map"][1]:
            if last != (ONE, ONE):
                refusal(self, led_on, (HALF, QUARTER, QUARTER, STEP, last), InvalidMap)

    def test_unlike_degrees(self):
        three = Rows((1, 1, 1), (nought(1, 1), ONE))
        for arguments in ((HALF, three), (three, HALF)):
            refusal(self, is_rows_map, arguments + (None,), InvalidOperation)
            refusal(self, led, arguments + (None, None, None), InvalidOperation)
            for function in (led_group, one_to_one_answer, onto_answer):
                refusal(self, function, arguments + (None, None), InvalidOperation)
        for some in ((three, HALF, HALF), (HALF, three, HALF), (HALF, HALF, three)):
            refusal(self, led_on, some + (None, None), InvalidOperation)
        refusal(self, led_on, (three, HALF, None, None, None), InvalidRows)
        refusal(self, led_on, (three, None, HALF, None, None), InvalidRows)
        refusal(self, is_rows_map, (three, TWIST, None), InvalidRows)

    def test_tables(self):
        WRONG["table map"] = (InvalidMap, (
            None, True, 0, "", (), [], {}, STEP, {**SAME, (0, 1): TWO}, {**SAME, (9,): ONE},
            {cell: ONE for cell in EDGE},
            {**SAME, (0,): None}, TWIST, tuple(SAME.items())))
        for function in (rows_map, kernel_table, image_table):
            check_wrong(self, function, (T, T, DOUBLE), ("table", "table", "table map"))
        for function in (is_kernel_table, is_image_table):
            check_wrong(self, function, (T, T, DOUBLE, None), ("table", "table", "table map", None))
        check_wrong(self, is_table_map, (T, T, None), ("table", "table", None))
        for function in (rows_map, kernel_table, image_table, is_table_map):
            refusal(self, function, (T, constant(FILLED, 1), None), InvalidOperation)
            refusal(self, function, (T, PLAIN, None), InvalidTable)
        for function in (is_kernel_table, is_image_table):
            refusal(self, function, (T, constant(FILLED, 1), None, None), InvalidOperation)
        for wrong in WRONG_TABLES:
            refusal(self, rows_map, (wrong, None, None), InvalidTable)

    def test_degrees(self):
        for wrong in WRONG_INTEGERS:
            self.assertIs(refusal(self, led, (HALF, QUARTER, STEP, wrong, None), InvalidNumber).given, wrong)


if __name__ == "__main__":
    unittest.main()
