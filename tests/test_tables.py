"""Tables [6.1] to [6.6]."""

import itertools
import random
import unittest

from gluewhole.base.exact import undoing
from gluewhole.errors import (
    InvalidCell, InvalidMap, InvalidNumber, InvalidOperation, InvalidSpace, InvalidTable, TooMany)
from gluewhole.space.maps import is_map, same
from gluewhole.space.spaces import faces, parts, star
from gluewhole.tables.tables import (
    MAX_RANK, MAX_SIZE, Table, constant, framed, inside, on_parts, on_star, outside, pulled, restricted, table_fault,
    table_product, table_sum)
from tests.helper import (
    EDGE, FILLED, LESS, ODD, ONE, ROUND, TWIST, TWO, WRONG_CELLS, WRONG_GRIDS, WRONG_LEADS, WRONG_SPACES, check_wrong,
    closed, refusal, times, unit)

T = Table(EDGE, {(0,): 1, (1,): 1, (0, 1): 1}, {((0,), (0, 1)): ONE, ((1,), (0, 1)): TWO})
C = constant(FILLED, 1)
SOLID = closed([(0, 1, 2, 3)])
POINTS = tuple([(point,) for point in range(80)])
TURN, SKEW = (2, ((1, 2), (0, 1))), (2, ((0, 1), (-1, 3)))


def frames_of(table, seed):
    """Random frames of small numbers for a table."""
    source, found = random.Random(seed), {}
    for cell in table.space:
        size = table.ranks[cell]
        rows = [list(row) for row in unit(size)[1]]
        for _ in range(3 * size):
            one, other = source.randrange(size), source.randrange(size)
            number = source.choice((-1, 1, 2))
            if one != other:
                rows[one] = [a + number * b for a, b in zip(rows[one], rows[other])]
            else:
                rows[one] = [-item for item in rows[one]]
        found[cell] = (size, tuple([tuple(row) for row in rows]))
    return found


def all_pairs(space):
    """The pairs (face, cell), by the cells and then by ascending faces."""
    return [(face, cell) for cell in space for face in sorted([face for _, face in faces(cell)])]


def checked(case, table):
    """Checks that a table is one: all maps fit, and both ways agree."""
    ranks, maps = table.ranks, table.maps
    case.assertEqual(list(ranks), sorted(table.space))
    case.assertEqual(list(maps), sorted(all_pairs(table.space)))
    for face, cell in maps:
        grid = maps[(face, cell)]
        case.assertEqual((grid[0], len(grid[1])), (ranks[face], ranks[cell]))
        case.assertTrue(all([len(row) == grid[0] for row in grid[1]]))
    for cell in table.space:
        for some in itertools.combinations(cell, len(cell) - 2) if len(cell) > 2 else ():
            ways = [times(maps[(face, cell)], maps[(some, face)]) for _, face in faces(cell) if set(some) < set(face)]
            case.assertEqual(ways[0], ways[1])
    return table


def all_ways(table, some, cell):
    """The grids of all ways from a part to a cell."""
    if some == cell:
        return [unit(table.ranks[cell])]
    found = []
    for _, face in faces(cell):
        if set(some) <= set(face):
            found += [times(table.maps[(face, cell)], grid) for grid in all_ways(table, some, face)]
    return found


TABLES = (
    T, C, TWIST, constant((), 3), constant(SOLID, 2), constant(POINTS[:30], 1), constant(((99,),), 4),
    framed(constant(SOLID, 2), frames_of(constant(SOLID, 2), 1)), framed(TWIST, frames_of(TWIST, 2)),
    table_sum(TWIST, constant(ROUND, 2)), table_product(T, constant(EDGE, 3)), on_star(FILLED, (1, 2), 3),
    framed(constant(FILLED, 4), frames_of(constant(FILLED, 4), 3)), on_parts(SOLID, (1, 2, 3), 2))


class Examples(unittest.TestCase):
    def test_faults(self):
        self.assertEqual(
            repr([T.ranks, T.led_by((1,), (0, 1)), str(T), table_fault(EDGE, T.ranks, {}),
                  table_fault(C.space, C.ranks, {**C.maps, ((0,), (0, 1)): TWO})]),
            "[{(0,): 1, (0, 1): 1, (1,): 1}, (1, ((2,),)), 'table on 3 cells, sizes 2 1', ('maps',), "
            "('ways', (0,), (0, 1, 2))]")

    def test_stars_outsides_and_frames(self):
        self.assertEqual(
            repr([on_star(EDGE, (0,), 2).ranks, outside(T, ((1,),)).ranks,
                  framed(T, {(0,): LESS, (1,): ONE, (0, 1): ONE}).maps[((0,), (0, 1))]]),
            "[{(0,): 2, (0, 1): 2, (1,): 0}, {(0,): 1, (0, 1): 1, (1,): 0}, (1, ((-1,),))]")

    def test_sums_products_and_pulled_ones(self):
        found = (table_sum(T, T), table_product(T, T), pulled(T, EDGE, {0: 1, 1: 1}))
        self.assertEqual(
            [one.maps[((1,), (0, 1))] for one in found], [(2, ((2, 0), (0, 2))), (1, ((4,),)), (1, ((1,),))])


class Tables(unittest.TestCase):
    def test_constants(self):
        self.assertEqual((MAX_RANK, MAX_SIZE), (4, 30))

    def test_properties(self):
        for table in TABLES:
            checked(self, table)
            items = [item for grid in table.maps.values() for row in grid[1] for item in row]
            if max([abs(item) for item in items], default=0) < 10 ** 12:
                again = Table(table.space, table.ranks, table.maps)
                self.assertEqual((again.space, again.ranks, again.maps), (table.space, table.ranks, table.maps))
                self.assertEqual(again, table)

    def test_dicts_ascend_in_whatever_sequence_they_are_passed(self):
        ranks, maps = dict(reversed(list(TWIST.ranks.items()))), dict(reversed(list(TWIST.maps.items())))
        table = Table(ROUND, ranks, maps)
        self.assertEqual(list(table.ranks), [(0,), (0, 1), (0, 2), (1,), (1, 2), (2,)])
        self.assertEqual(list(table.maps), sorted(maps))
        self.assertEqual(table, TWIST)
        self.assertEqual(list(maps), sorted(maps)[::-1])

    def test_no_state_is_shared(self):
        ranks, maps = T.ranks, T.maps
        table = Table(EDGE, ranks, maps)
        ranks[(0,)] = 4
        maps[((0,), (0, 1))] = TWO
        self.assertEqual(table, T)
        table.ranks[(0,)] = 3
        table.maps.clear()
        self.assertEqual((table.ranks, table.maps), (T.ranks, T.maps))
        self.assertEqual(table, T)

    def test_it_never_changes(self):
        for name in ("space", "ranks", "maps"):
            with self.assertRaises(AttributeError):
                setattr(T, name, ())

    def test_it_cannot_be_iterated_over(self):
        for attempt in (lambda: list(T), lambda: iter(T), lambda: [*T]):
            self.assertRaises(TypeError, attempt)

    def test_methods_stand_in_the_class(self):
        for name in ("__init__", "space", "ranks", "maps", "led_by", "__eq__", "__str__"):
            self.assertIn(name, vars(Table))

    def test_equality(self):
        for one, other in itertools.product(TABLES, repeat=2):
            same_members = (one.space, one.ranks, one.maps) == (other.space, other.ranks, other.maps)
            self.assertIs(one == other, same_members)
            self.assertIs(one != other, not same_members)
        self.assertIs(T == Table(EDGE, T.ranks, {**T.maps, ((1,), (0, 1)): ONE}), False)
        self.assertIs(constant(EDGE, 0) == constant(EDGE, 1), False)
        self.assertIs(constant(((0,),), 1) == constant(((1,),), 1), False)
        self.assertIs(constant(((0,),), 1) == constant(((0,),), 2), False)
        for value in ODD:
            self.assertIs(T == value, False)
            self.assertIs(T != value, True)

    def test_texts(self):
        pairs = (((), 0), ((), 4), (((5,),), 0), (POINTS[:30], 1), (SOLID, 2))
        self.assertEqual([str(constant(space, rank)) for space, rank in pairs], [
            "table on 0 cells, sizes 0", "table on 0 cells, sizes 0", "table on 1 cells, sizes 0",
            "table on 30 cells, sizes 30", "table on 15 cells, sizes 8 12 8 2"])
        self.assertEqual(str(TWIST), "table on 6 cells, sizes 3 3")

    def test_wrong_arguments(self):
        for wrong in WRONG_SPACES:
            refusal(self, Table, (wrong, T.ranks, T.maps), InvalidSpace)
            refusal(self, table_fault, (wrong, None, None), InvalidSpace)
        for wrong in ODD:
            refusal(self, Table, (EDGE, wrong, T.maps), InvalidTable)
            refusal(self, Table, (EDGE, T.ranks, wrong), InvalidTable)


class Faults(unittest.TestCase):
    def fault(self, space, ranks, maps):
        """The fault, with a check that the class refuses just what has one."""
        found = table_fault(space, ranks, maps)
        if found is None:
            Table(space, ranks, maps)
        else:
            refusal(self, Table, (space, ranks, maps), InvalidTable)
        return found

    def test_none(self):
        for table in TABLES[:6]:
            self.assertIsNone(self.fault(table.space, table.ranks, table.maps))
        self.assertIsNone(self.fault((), {}, {}))
        most = {((0,), (0, 1)): (1, ((10 ** 12 - 1,),)), ((1,), (0, 1)): (1, ((1 - 10 ** 12,),))}
        self.assertIsNone(self.fault(EDGE, T.ranks, most))

    def test_ranks(self):
        for ranks in ODD + (
                {}, {(0,): 1, (1,): 1}, {**T.ranks, (2,): 1}, {**T.ranks, (0,): 5}, {**T.ranks, (0,): -1},
                {**T.ranks, (0,): True}, {**T.ranks, (0,): None}, {**T.ranks, (0,): "1"}, {**T.ranks, None: 1},
                {(0,): 1, (1,): 1, (0, 2): 1}, {(0,): 1, (True,): 1, (0, 1): 1}, {(0,): 1, (1,): 1, (False, 1): 1},
                {**T.ranks, (0,): 10 ** 12}, list(T.ranks.items())):
            self.assertEqual(self.fault(EDGE, ranks, {}), ("ranks",))
            self.assertEqual(self.fault(EDGE, ranks, None), ("ranks",))
        self.assertEqual(self.fault((), {(0,): 0}, {}), ("ranks",))

    def test_sizes(self):
        eight = POINTS[:8]
        self.assertEqual(self.fault(eight, {cell: 4 for cell in eight}, {}), ("size", 0))
        self.assertIsNone(self.fault(eight, {cell: 4 if cell < (7,) else 2 for cell in eight}, {}))
        self.assertEqual(self.fault(eight, {cell: 4 if cell < (7,) else 3 for cell in eight}, None), ("size", 0))
        full = closed(list(itertools.combinations(range(5), 2)))
        self.assertEqual(self.fault(full, {cell: 4 for cell in full}, {}), ("size", 1))
        self.assertEqual(self.fault(full, {cell: 3 for cell in full}, {}), ("maps",))
        ball = closed(list(itertools.combinations(range(5), 3)))
        self.assertEqual(self.fault(ball, {cell: 4 if len(cell) == 3 else 0 for cell in ball}, {}), ("size", 2))

    def test_maps(self):
        good = T.maps
        for maps in ODD + (
                {}, {((0,), (0, 1)): ONE}, {**good, ((0,), (1,)): ONE}, {**good, None: ONE}, {**good, (0, 1): ONE},
                {((0,), (0, 1)): ONE, ((0, 1), (1,)): ONE}, {((0,), (0, 1)): ONE, ((True,), (0, 1)): ONE},
                {((0,), (0, 1)): ONE, ((1,), (0, True)): ONE}, {((0,), (False, 1)): ONE, ((1,), (0, 1)): ONE},
                list(good.items()), {((0,), (0, 1)): ONE, ((1,), (0, 1), 1): ONE}):
            self.assertEqual(self.fault(EDGE, T.ranks, maps), ("maps",))
        self.assertEqual(self.fault((), {}, {((0,), (0, 1)): ONE}), ("maps",))
        self.assertEqual(self.fault((), {}, None), ("maps",))

    def test_grids(self):
        good = T.maps
        for grid in WRONG_GRIDS + ((1, ()), (0, ((),)), (2, ((1, 2),)), (1, ((1,), (2,)))):
            self.assertEqual(self.fault(EDGE, T.ranks, {**good, ((1,), (0, 1)): grid}), ("grid", (1,), (0, 1)))
            self.assertEqual(
                self.fault(EDGE, T.ranks, {((0,), (0, 1)): grid, ((1,), (0, 1)): None}), ("grid", (0,), (0, 1)))
        ranks = {(0,): 2, (1,): 0, (0, 1): 1}
        maps = {((0,), (0, 1)): (2, ((1, 2),)), ((1,), (0, 1)): (0, ((),))}
        self.assertIsNone(self.fault(EDGE, ranks, maps))
        self.assertEqual(self.fault(EDGE, ranks, {**maps, ((1,), (0, 1)): (0, ())}), ("grid", (1,), (0, 1)))
        self.assertEqual(self.fault(EDGE, ranks, {**maps, ((0,), (0, 1)): (1, ((1,), (2,)))}), ("grid", (0,), (0, 1)))

    def test_the_first_grid_by_cells_and_then_by_faces(self):
        for space in (FILLED, SOLID):
            table = constant(space, 1)
            pairs = all_pairs(space)
            for at, pair in enumerate(pairs):
                maps = {one: table.maps[one] if one in pairs[:at] else None for one in reversed(pairs)}
                self.assertEqual(self.fault(space, table.ranks, maps), ("grid",) + pair)

    def test_ways(self):
        for space in (FILLED, SOLID):
            table = constant(space, 1)
            large = [cell for cell in space if len(cell) > 2]
            far = [(some, cell) for cell in large for some in itertools.combinations(cell, len(cell) - 2)]
            for face, cell in all_pairs(space):
                maps = {**table.maps, (face, cell): TWO}
                unlike = [
                    (some, top) for some, top in far
                    if (top == cell and set(some) < set(face)) or (some == face and set(cell) < set(top))]
                told = ("ways",) + unlike[0] if unlike else None
                self.assertEqual(self.fault(space, table.ranks, maps), told)
        two = constant(FILLED, 2)
        swap = (2, ((0, 1), (1, 0)))
        self.assertEqual(
            self.fault(FILLED, two.ranks, {**two.maps, ((1, 2), FILLED[-1]): swap}), ("ways", (1,), (0, 1, 2)))

    def test_the_first_fault_counts(self):
        maps = {**C.maps, ((0,), (0, 1)): TWO, ((1, 2), (0, 1, 2)): None}
        self.assertEqual(self.fault(FILLED, C.ranks, maps), ("grid", (1, 2), (0, 1, 2)))
        self.assertEqual(self.fault(FILLED, {**C.ranks, (0,): 5}, maps), ("ranks",))


class LedBy(unittest.TestCase):
    def test_all_ways_lead_alike(self):
        for table in TABLES:
            for cell in table.space:
                for some in parts(cell):
                    for grid in all_ways(table, some, cell):
                        self.assertEqual(table.led_by(some, cell), grid)

    def test_unit_and_steps(self):
        self.assertEqual(TWIST.led_by((1, 2), (1, 2)), ONE)
        self.assertEqual(TWIST.led_by((2,), (1, 2)), LESS)
        self.assertEqual(constant(SOLID, 0).led_by((2,), (0, 1, 2, 3)), (0, ()))

    def test_wrong_arguments(self):
        for wrong in WRONG_CELLS + ((99,), (0, 3)):
            refusal(self, C.led_by, (wrong, (0, 1)), InvalidCell)
            refusal(self, C.led_by, ((0,), wrong), InvalidCell)
            refusal(self, C.led_by, ((1, 2), wrong), InvalidCell)
        for some, cell in (((2,), (0, 1)), ((0, 1), (0,)), ((0, 1), (1, 2)), ((0, 1, 2), (0, 1))):
            refusal(self, C.led_by, (some, cell), InvalidOperation)


class Making(unittest.TestCase):
    def test_constant(self):
        for space in (EDGE, ROUND, FILLED, (), ((99,),)):
            for rank in range(5):
                table = checked(self, constant(space, rank))
                self.assertEqual(table.space, space)
                self.assertEqual(set(table.ranks.values()) - {rank}, set())
                self.assertTrue(all([grid == unit(rank) for grid in table.maps.values()]))

    def test_stars_and_parts(self):
        for space in (EDGE, FILLED, SOLID):
            for cell in space:
                for rank in (0, 1, 2):
                    told = ((on_star, star(space, cell)), (on_parts, parts(cell)))
                    for table, lot in [(function(space, cell, rank), lot) for function, lot in told]:
                        checked(self, table)
                        self.assertEqual(table.space, space)
                        self.assertEqual(table.ranks, {one: rank if one in lot else 0 for one in space})
                        for (face, one), grid in table.maps.items():
                            if face in lot and one in lot:
                                self.assertEqual(grid, unit(rank))

    def test_sizes_of_thirty_and_above(self):
        self.assertEqual(str(constant(POINTS[:15], 2)), "table on 15 cells, sizes 30")
        self.assertEqual(refusal(self, constant, (POINTS[:16], 2), TooMany).most, 30)
        self.assertEqual(refusal(self, constant, (POINTS[:31], 1), TooMany).most, 30)
        self.assertEqual(str(constant(POINTS, 0)), "table on 80 cells, sizes 0")
        wheel = closed([(0, point) for point in range(1, 32)])
        self.assertEqual(refusal(self, on_star, (wheel, (0,), 1), TooMany).most, 30)
        self.assertEqual(str(on_star(wheel, (1,), 4)), "table on 63 cells, sizes 4 4")
        self.assertEqual(str(on_parts(wheel, (0, 1), 4)), "table on 63 cells, sizes 8 4")
        wheel = closed([(0, point) for point in range(1, 31)])
        self.assertEqual(str(on_star(wheel, (0,), 1)), "table on 61 cells, sizes 1 30")

    def test_wrong_arguments(self):
        check_wrong(self, constant, (EDGE, 1), ("space", "rank"))
        for function in (on_star, on_parts):
            check_wrong(self, function, (EDGE, (1,), 1), ("space", "cell of", "rank"))
            refusal(self, function, (EDGE, (2,), 9), InvalidCell)
        self.assertEqual(refusal(self, constant, (POINTS, 5), InvalidNumber).given, 5)


class Subs(unittest.TestCase):
    def test_restricted(self):
        for table in TABLES[:9]:
            for cell in table.space:
                sub = parts(cell)
                found = checked(self, restricted(table, sub))
                self.assertEqual(found.space, sub)
                self.assertEqual(found.ranks, {one: table.ranks[one] for one in sub})
                self.assertEqual(found.maps, {pair: table.maps[pair] for pair in all_pairs(sub)})
            self.assertEqual(restricted(table, table.space), table)
            self.assertEqual(restricted(table, ()), constant((), 1))

    def test_inside_and_outside(self):
        for table in TABLES[:9]:
            for cell in table.space:
                sub = parts(cell)
                rest = [one for one in table.space if one not in sub]
                for found, lot in ((inside(table, sub), sub), (outside(table, sub), rest)):
                    checked(self, found)
                    self.assertEqual(found.space, table.space)
                    self.assertEqual(found.ranks, {one: table.ranks[one] if one in lot else 0 for one in table.space})
                    for (face, one), grid in found.maps.items():
                        if face in lot and one in lot:
                            self.assertEqual(grid, table.maps[(face, one)])
            self.assertEqual(inside(table, table.space), table)
            self.assertEqual(outside(table, ()), table)
            self.assertEqual(set(outside(table, table.space).ranks.values()) - {0}, set())

    def test_wrong_arguments(self):
        for function in (restricted, inside, outside):
            check_wrong(self, function, (C, ((1,),)), ("table", None))
            for wrong in WRONG_SPACES + (((3,),), ((0,), (3,), (0, 3)), ((True,),), C, SOLID):
                refusal(self, function, (C, wrong), InvalidOperation)
            refusal(self, function, (None, None), InvalidTable)


class Putting(unittest.TestCase):
    def test_sums(self):
        one, other = TABLES[8], table_sum(TWIST, constant(ROUND, 1))
        found = checked(self, table_sum(one, other))
        for cell in ROUND:
            self.assertEqual(found.ranks[cell], one.ranks[cell] + other.ranks[cell])
        for pair in found.maps:
            left, right = one.maps[pair], other.maps[pair]
            rows = [row + (0,) * right[0] for row in left[1]] + [(0,) * left[0] + row for row in right[1]]
            self.assertEqual(found.maps[pair], (left[0] + right[0], tuple(rows)))

    def test_sums_with_unlike_ranks(self):
        one, other = outside(T, ((1,),)), inside(T, ((1,),))
        found = checked(self, table_sum(one, other))
        self.assertEqual(found.ranks, T.ranks)
        self.assertNotEqual(found, T)
        self.assertEqual(found.maps[((1,), (0, 1))], (1, ((0,),)))
        self.assertEqual(found.maps[((0,), (0, 1))], ONE)

    def test_products(self):
        one = framed(constant(EDGE, 2), {(0,): TURN, (1,): SKEW, (0, 1): TURN})
        other = table_sum(T, outside(T, ((0,),)))
        found = checked(self, table_product(one, other))
        for pair in found.maps:
            left, right, grid = one.maps[pair], other.maps[pair], found.maps[pair]
            high, wide = len(right[1]), right[0]
            for i, j, k, n in itertools.product(range(len(left[1])), range(high), range(left[0]), range(wide)):
                self.assertEqual(grid[1][i * high + j][k * wide + n], left[1][i][k] * right[1][j][n])
        self.assertEqual(found.ranks, {(0,): 2, (0, 1): 4, (1,): 4})

    def test_empty_spaces(self):
        nothing = constant((), 2)
        self.assertEqual([table_sum(nothing, nothing), table_product(nothing, nothing)], [nothing, nothing])
        self.assertEqual([pulled(nothing, (), {}), framed(nothing, {}), pulled(T, (), {})], [nothing] * 3)

    def test_ranks_above_four(self):
        self.assertEqual(table_sum(constant(EDGE, 2), constant(EDGE, 2)), constant(EDGE, 4))
        self.assertEqual(refusal(self, table_sum, (constant(EDGE, 2), constant(EDGE, 3)), TooMany).most, 4)
        self.assertEqual(refusal(self, table_product, (constant(EDGE, 2), constant(EDGE, 3)), TooMany).most, 4)
        both = (constant(POINTS[:10], 3), constant(POINTS[:10], 2))
        self.assertEqual(refusal(self, table_sum, both, TooMany).most, 4)
        self.assertEqual(refusal(self, table_product, both, TooMany).most, 4)

    def test_sizes_above_thirty(self):
        one, other = constant(POINTS[:15], 1), constant(POINTS[:10], 2)
        self.assertEqual(str(table_sum(one, one)), "table on 15 cells, sizes 30")
        self.assertEqual(refusal(self, table_sum, (constant(POINTS[:16], 1),) * 2, TooMany).most, 30)
        self.assertEqual(refusal(self, table_product, (other, other), TooMany).most, 30)

    def test_wrong_arguments(self):
        for function in (table_sum, table_product):
            check_wrong(self, function, (T, T), ("table", "table"))
            refusal(self, function, (T, C), InvalidOperation)
            refusal(self, function, (constant(POINTS[:10], 3), constant(POINTS[:11], 2)), InvalidOperation)


class Pulled(unittest.TestCase):
    def test_ranks_and_maps_of_images(self):
        for table in (T, TWIST, TABLES[7], TABLES[12], C):
            for space in (EDGE, ROUND, FILLED, ((5,),)):
                names = [cell[0] for cell in space if len(cell) == 1]
                for onto in itertools.product([cell[0] for cell in table.space if len(cell) == 1], repeat=len(names)):
                    lead = dict(zip(names, onto))
                    if not is_map(space, table.space, lead):
                        refusal(self, pulled, (table, space, lead), InvalidMap)
                        continue
                    found = checked(self, pulled(table, space, lead))
                    images = {cell: tuple(sorted({lead[point] for point in cell})) for cell in space}
                    self.assertEqual(found.ranks, {cell: table.ranks[images[cell]] for cell in space})
                    for face, cell in found.maps:
                        self.assertEqual(found.maps[(face, cell)], table.led_by(images[face], images[cell]))
            self.assertEqual(pulled(table, table.space, same(table.space)), table)

    def test_sizes_above_thirty(self):
        four = constant(((0,),), 4)
        self.assertEqual(str(pulled(four, POINTS[:7], {point: 0 for point in range(7)})), "table on 7 cells, sizes 28")
        self.assertEqual(refusal(self, pulled, (four, POINTS[:8], {point: 0 for point in range(8)}), TooMany).most, 30)

    def test_wrong_arguments(self):
        check_wrong(self, pulled, (T, EDGE, {0: 1, 1: 1}), ("table", "space", "lead"))
        for lead in WRONG_LEADS + ({}, {0: 1}, {0: 1, 1: 1, 2: 1}, {0: 0, 1: 2}, {0: 1, 1: True}):
            refusal(self, pulled, (T, EDGE, lead), InvalidMap)


class Framed(unittest.TestCase):
    def test_maps_between_frames(self):
        for seed, table in enumerate(TABLES):
            frames = frames_of(table, seed)
            found = checked(self, framed(table, frames))
            self.assertEqual((found.space, found.ranks), (table.space, table.ranks))
            for face, cell in found.maps:
                led = times(found.maps[(face, cell)], frames[face])
                self.assertEqual(led, times(frames[cell], table.maps[(face, cell)]))
            back = {cell: undoing(frames[cell]) for cell in table.space}
            self.assertEqual(framed(found, back), table)

    def test_frames_stay(self):
        frames = {cell: LESS for cell in reversed(ROUND)}
        framed(TWIST, frames)
        self.assertEqual(list(frames), list(reversed(ROUND)))

    def test_integers_of_any_length(self):
        number = 10 ** 12 - 1
        frames = {(0,): (2, ((1, number), (0, 1))), (1,): unit(2), (0, 1): (2, ((1, 0), (number, 1)))}
        found = framed(constant(EDGE, 2), frames)
        self.assertEqual(found.maps[((0,), (0, 1))], (2, ((1, -number), (number, 1 - number * number))))
        self.assertEqual(framed(found, {cell: unit(2) for cell in EDGE}), found)
        self.assertEqual(table_sum(found, constant(EDGE, 0)), found)
        self.assertEqual(restricted(found, EDGE), found)
        self.assertEqual(pulled(found, EDGE, same(EDGE)), found)
        self.assertEqual(found.led_by((0,), (0, 1)), found.maps[((0,), (0, 1))])
        self.assertEqual(table_fault(EDGE, found.ranks, found.maps), ("grid", (0,), (0, 1)))
        refusal(self, Table, (EDGE, found.ranks, found.maps), InvalidTable)

    def test_wrong_arguments(self):
        good = {cell: ONE for cell in EDGE}
        check_wrong(self, framed, (T, good), ("table", None))
        for frames in ODD + (
                {}, {(0,): ONE, (1,): ONE}, {**good, (2,): ONE}, {**good, (0,): TWO}, {**good, (1,): (1, ((0,),))},
                {**good, (0, 1): unit(2)}, {**good, (0,): (1, ((1,), (2,)))}, {**good, (0, 1): (0, ())},
                {**good, (0, 1): (1, ())}, {**good, None: ONE},
                {**good, (0, 1): (1, ((True,),))}, {**good, (0,): 1}, {(0,): ONE, (True,): ONE, (0, 1): ONE},
                {**good, (0,): (1, ((10 ** 12,),))}, {**good, (0,): T}, list(good.items())):
            refusal(self, framed, (T, frames), InvalidOperation)
        two = {cell: unit(2) for cell in EDGE}
        for grid in (
                (2, ((2, 0), (0, 2))), (2, ((1, 1), (1, 1))), (2, ((1, 0),)), (2, ((1, 2), (3, 4))), (1, ((1,), (0,)))):
            refusal(self, framed, (constant(EDGE, 2), {**two, (1,): grid}), InvalidOperation)


class NotTrue(unittest.TestCase):
    def test_what_is_not_true(self):
        sub = ((0,),)
        self.assertNotEqual(table_sum(inside(T, sub), outside(T, sub)), T)


if __name__ == "__main__":
    unittest.main()
