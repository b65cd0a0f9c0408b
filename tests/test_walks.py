"""Walks, rounds and the wholes that they leave as they are [16.1] to [16.6]."""

import itertools
import random
import unittest

from gluewhole.base.diagonal import undone_answer
from gluewhole.errors import InvalidNumber, InvalidOperation, InvalidRow, InvalidSpace, InvalidTable
from gluewhole.space.spaces import is_space, joined, space_of
from gluewhole.tables.tables import Table, constant, framed, pulled, table_product, table_sum
from gluewhole.tables.tellings import is_still, part
from gluewhole.tables.wholes import whole_base
from gluewhole.turn.walks import (
    is_kept_base, is_local, kept_base, path_lead, round_answer, rounds, straight, told_path)
from tests.helper import (
    EDGE, FILLED, LESS, ODD, ONE, ROUND, TWIST, TWO, WRONG, WRONG_INTEGERS, check_judged, check_wrong, closed, moved,
    fastest, nought, random_tables, refusal, scaled, spaces, times, told_determinant, transposed, turned_table,
    undone_pair, unit)

LONG = 10 ** 30
# A ring of six triangles, which a map leads to the ring of three stretches.
BAND = closed([(0, 1, 3), (1, 3, 4), (1, 2, 4), (2, 4, 5), (0, 2, 5), (0, 3, 5)])
DOWN = {point: point % 3 for point in range(6)}
NET = closed([(0, 1), (0, 2), (1, 2), (1, 3), (2, 3), (3, 4), (0, 4), (7, 8), (8, 9), (7, 9), (11,)])


def free_local(space, rank, source, many=2):
    """A local table on a space without triangles, its maps being random undone grids."""
    maps = {(face, cell): undone_pair(rank, source, many)[0]
            for cell in space if len(cell) == 2 for face in ((cell[0],), (cell[1],))}
    return Table(space, {cell: rank for cell in space}, maps)


def quarter(space, cell):
    """The local table of rank 2 whose map from the last point to a cell turns by a quarter."""
    maps = {(face, other): unit(2) for other in space if len(other) == 2 for face in ((other[0],), (other[1],))}
    maps[(cell[1:], cell)] = (2, ((0, -1), (1, 0)))
    return Table(space, {other: 2 for other in space}, maps)


def local_tables():
    """Local tables: constant and framed ones, twisted ones, on several pieces, with triangles, of rank 0."""
    source = random.Random(160)
    found = [TWIST, constant(ROUND, 1), constant(FILLED, 3), constant(ROUND, 0), constant((), 2), constant(((5,),), 4)]
    found += [quarter(ROUND, (1, 2)), table_sum(TWIST, quarter(ROUND, (0, 1))), table_product(TWIST, TWIST)]
    for rank in (1, 2, 3):
        found.append(free_local(ROUND, rank, source))
        found.append(free_local(NET, 2, source))
        found.append(pulled(free_local(ROUND, min(rank, 2), source), BAND, DOWN))
    found.append(turned_table(constant(closed([(0, 1, 2, 3), (3, 4)]), 2), source))
    found.append(turned_table(constant(BAND, 2), source))
    found.append(turned_table(pulled(table_sum(TWIST, constant(ROUND, 1)), BAND, DOWN), source))
    found.append(turned_table(constant(joined(ROUND, closed([(5, 6, 7)])), 3), source))
    for space in spaces(161, 8, 5):
        if max([sum([len(cell) == size for cell in space]) for size in (1, 2, 3, 4)]) <= 15:
            found.append(turned_table(constant(space, 2), source))
    return found


LOCAL = local_tables()


def near(space):
    """The dict from the points to their neighbours."""
    found = {cell[0]: [] for cell in space if len(cell) == 1}
    for cell in space:
        if len(cell) == 2:
            found[cell[0]].append(cell[1])
            found[cell[1]].append(cell[0])
    return found


def shortest(space, point, other):
    """The least of the shortest paths, found by going through all of them."""
    around, paths, seen = near(space), [(point,)], {point}
    while paths:
        ends = sorted([path for path in paths if path[-1] == other])
        if ends:
            return ends[0]
        seen |= {path[-1] for path in paths}
        paths = [path + (q,) for path in paths for q in around[path[-1]] if q not in seen]
    return None


def told_rounds(space, point):
    """The pairs of a cell and of its told round, by the words of [16.4]."""
    found = []
    for cell in space:
        if len(cell) == 2 and shortest(space, point, cell[0]) is not None:
            one, other = shortest(space, point, cell[0]), shortest(space, point, cell[1])
            if one[:-1] == other and len(one) == len(other) + 1 or other[:-1] == one and len(other) == len(one) + 1:
                continue
            found.append((cell, one + tuple(reversed(other))))
    return found


def walk_from(space, point, source, most=9):
    """A random path from a point."""
    path, around = [point], near(space)
    for _ in range(source.randint(0, most)):
        if around[path[-1]]:
            path.append(source.choice(around[path[-1]]))
    return tuple(path)


def points_of(table):
    """The points of the table's space."""
    return [cell[0] for cell in table.space if len(cell) == 1]


def undoing_of(grid):
    """What undoes a grid."""
    claim, paper = undone_answer(grid)
    assert claim[0] == "undone"
    return paper


class Examples(unittest.TestCase):
    def test_walks(self):
        self.assertEqual(
            repr([path_lead(TWIST, (0, 1, 2)), rounds(ROUND, 0), round_answer(TWIST, 0, (5,)), straight(TWIST)[0]]),
            "[(1, ((-1,),)), ((0, 1, 2, 0),), ('round', (0, 1, 2, 0)), 'round']")

    def test_kept_ones(self):
        self.assertEqual(kept_base(TWIST, 0), (0, ((),)))

    def test_one_that_raises(self):
        refusal(self, path_lead, (TWIST, (0, 3)), InvalidOperation)


class Local(unittest.TestCase):
    def test_local_ones(self):
        for table in LOCAL:
            self.assertIs(is_local(table), True)
            for point, others in near(table.space).items():
                for other in others:
                    self.assertEqual(table.ranks[(point,)], table.ranks[(other,)])

    def test_other_ones(self):
        twice = Table(EDGE, {cell: 1 for cell in EDGE}, {((0,), (0, 1)): ONE, ((1,), (0, 1)): TWO})
        higher = Table(EDGE, {(0,): 1, (1,): 1, (0, 1): 2}, {
            ((0,), (0, 1)): (1, ((1,), (1,))), ((1,), (0, 1)): (1, ((1,), (0,)))})
        wider = Table(EDGE, {(0,): 2, (1,): 2, (0, 1): 1}, {
            ((0,), (0, 1)): (2, ((1, 0),)), ((1,), (0, 1)): (2, ((0, 1),))})
        lacking = Table(EDGE, {(0,): 0, (1,): 1, (0, 1): 1}, {((0,), (0, 1)): nought(1, 0), ((1,), (0, 1)): ONE})
        nearly = Table(EDGE, {cell: 2 for cell in EDGE}, {
            ((0,), (0, 1)): unit(2), ((1,), (0, 1)): (2, ((2, 1), (1, 2)))})
        none = Table(EDGE, {cell: 1 for cell in EDGE}, {((0,), (0, 1)): ONE, ((1,), (0, 1)): (1, ((0,),))})
        for table in (twice, higher, wider, lacking, nearly, none):
            self.assertIs(is_local(table), False)
            refusal(self, path_lead, (table, (0, 1)), InvalidOperation)
            refusal(self, kept_base, (table, 0), InvalidOperation)
            refusal(self, is_kept_base, (table, 0, None), InvalidOperation)
            refusal(self, straight, (table,), InvalidOperation)
            refusal(self, round_answer, (table, 0, (0,) * table.ranks[(0,)]), InvalidOperation)
            # What comes with "then" comes last.
            refusal(self, round_answer, (table, 0, (0,) * 5), InvalidRow)
            refusal(self, round_answer, (table, 9, (0,) * 5), InvalidNumber)
        self.assertGreater(sum([not is_local(table) for table in random_tables(162, 20)]), 3)

    def test_grids_of_several_rows(self):
        turn = (2, ((2, 1), (1, 1)))
        table = Table(EDGE, {cell: 2 for cell in EDGE}, {((0,), (0, 1)): unit(2), ((1,), (0, 1)): turn})
        self.assertIs(is_local(table), True)
        self.assertEqual(path_lead(table, (0, 1)), (2, ((1, -1), (-1, 2))))
        self.assertEqual(path_lead(table, (1, 0)), turn)
        self.assertEqual(path_lead(table, (1, 0, 1)), unit(2))

    def test_long_integers(self):
        big = free_local(ROUND, 2, random.Random(3), 25)
        table = table_product(big, big)
        self.assertIs(is_local(table), True)
        lead = path_lead(table, (0, 1, 2, 0))
        self.assertGreater(max([abs(number) for row in lead[1] for number in row]), 10 ** 12)
        self.assertEqual(times(path_lead(table, (0, 2, 1, 0)), lead), unit(4))


class Asked(unittest.TestCase):
    def test_asked_again(self):
        # What a table keeps of being local changes no answer, whoever asks first, and nothing that can be seen.
        source = random.Random(9)
        for table in LOCAL + random_tables(165, 20, 5):
            local = all([
                grid[0] == len(grid[1]) and told_determinant(grid[1]) in (1, -1) for grid in table.maps.values()])
            calls = [(is_local, ())]
            for point in points_of(table)[:2]:
                row = tuple([source.randint(-3, 3) for _ in range(table.ranks[(point,)])])
                calls += [(path_lead, (walk_from(table.space, point, source),)), (kept_base, (point,))]
                calls += [(round_answer, (point, row)), (is_kept_base, (point, None))]
            told = []
            for function, arguments in calls * 2:
                fresh = Table((), {}, {}) if table.space == () else table_sum(table, constant(table.space, 0))
                self.assertEqual(fresh, table)
                for asked in (fresh, table):
                    if local or function is is_local:
                        told.append((function, function(asked, *arguments)))
                    else:
                        refusal(self, function, (asked,) + arguments, InvalidOperation)
                self.assertEqual((fresh, str(fresh), fresh.maps), (table, str(table), table.maps))
            self.assertTrue(all([answer is local for function, answer in told if function is is_local]))
            half = len(told) // 2
            self.assertEqual(told[:half], told[half:])
            self.assertEqual(told[::2], told[1::2])

    def test_sizes_of_maps(self):
        # One map that is not undone is enough, wherever it stands, and whatever its rank.
        source = random.Random(10)
        for rank in range(1, 5):
            table = turned_table(constant(ROUND, rank), source)
            self.assertIs(is_local(table), True)
            for pair, grid in table.maps.items():
                for other in (scaled(grid, 2), (rank, grid[1][:-1] + grid[1][:1]), scaled(grid, 0)):
                    if rank == 1 and other == grid:
                        continue
                    bad = Table(ROUND, table.ranks, {**table.maps, pair: other})
                    self.assertIs(is_local(bad), False)
                    refusal(self, path_lead, (bad, (0,)), InvalidOperation)
                    refusal(self, straight, (bad,), InvalidOperation)
        wide = Table(EDGE, {(0,): 1, (1,): 1, (0, 1): 2}, {((0,), (0, 1)): (1, ((1,), (0,))), ((1,), (0, 1)): (1, (
            (0,), (1,)))})
        self.assertIs(is_local(wide), False)


class Paths(unittest.TestCase):
    def test_leads(self):
        source = random.Random(1)
        for table in LOCAL:
            maps = table.maps
            for point in points_of(table):
                self.assertEqual(path_lead(table, (point,)), unit(table.ranks[(point,)]))
                path = walk_from(table.space, point, source)
                told = unit(table.ranks[(point,)])
                for one, other in zip(path, path[1:]):
                    cell = tuple(sorted((one, other)))
                    step = path_lead(table, (one, other))
                    # Led on to the cell, the step says there what the first point says there.
                    self.assertEqual(times(maps[((other,), cell)], step), maps[((one,), cell)])
                    told = times(step, told)
                lead = path_lead(table, path)
                self.assertEqual(lead, told)
                back = path_lead(table, tuple(reversed(path)))
                self.assertEqual(times(back, lead), unit(lead[0]))
                self.assertEqual(times(lead, back), unit(lead[0]))

    def test_near_paths(self):
        source, found = random.Random(2), 0
        for table in LOCAL:
            for point in points_of(table):
                path = walk_from(table.space, point, source, 12)
                lead = path_lead(table, path)
                for at in range(1, len(path) - 1):
                    corner = path[at - 1:at + 2]
                    shorter = path[:at] + path[at + 1:]
                    if corner[0] == corner[2]:
                        self.assertEqual(path_lead(table, path[:at] + path[at + 2:]), lead)
                        found += 1
                    elif tuple(sorted(corner)) in table.space:
                        self.assertEqual(path_lead(table, shorter), lead)
                        found += 1
        self.assertGreater(found, 100)

    def test_wholes(self):
        source, found = random.Random(3), 0
        for table in LOCAL:
            for whole in whole_base(table):
                for point in points_of(table):
                    path = walk_from(table.space, point, source)
                    ends = [part(table, 0, whole, (end,)) for end in (path[0], path[-1])]
                    self.assertEqual(moved(path_lead(table, path), ends[0]), ends[1])
                    found += 1
        self.assertGreater(found, 60)

    def test_told_paths(self):
        self.assertEqual([told_path(ROUND, 0, 0), told_path(ROUND, 0, 2)], [(0,), (0, 2)])
        self.assertEqual([told_path(NET, 0, 3), told_path(NET, 3, 0)], [(0, 1, 3), (3, 1, 0)])
        self.assertEqual([told_path(NET, 0, 7), told_path(NET, 11, 11)], [None, (11,)])
        # The least path goes by the least points, not by the least ones last.
        self.assertEqual(told_path(closed([(0, 1), (0, 2), (1, 8), (2, 3), (3, 9), (8, 9)]), 0, 9), (0, 1, 8, 9))
        found = 0
        for space in spaces(163, 40, 8) + [NET, BAND]:
            names = [cell[0] for cell in space if len(cell) == 1]
            for point, other in itertools.product(names, repeat=2):
                told = told_path(space, point, other)
                self.assertEqual(told, shortest(space, point, other))
                found += told is None
        self.assertGreater(found, 20)
        long = closed([(at, at + 1) for at in range(39)])
        self.assertEqual(told_path(long, 39, 0), tuple(range(39, -1, -1)))

    def test_rounds(self):
        for space in spaces(164, 40, 8) + [NET, BAND, ROUND, FILLED]:
            for point in [cell[0] for cell in space if len(cell) == 1]:
                told = rounds(space, point)
                self.assertEqual(told, tuple([way for _, way in told_rounds(space, point)]))
                for way in told:
                    self.assertEqual((way[0], way[-1]), (point, point))
        self.assertEqual(rounds(FILLED, 1), ((1, 0, 2, 1),))
        self.assertEqual([rounds(EDGE, 0), rounds(NET, 11), rounds(((4,),), 4)], [(), (), ()])
        self.assertEqual(rounds(NET, 8), ((8, 7, 9, 8),))

    def test_all_rounds(self):
        # Each round goes by cells of told rounds, forward or backward, and by cells of told paths, which tell nothing.
        source, turned = random.Random(4), 0
        for table in LOCAL:
            for point in points_of(table):
                path = walk_from(table.space, point, source, 10)
                path = path + tuple(reversed(shortest(table.space, point, path[-1])))[1:]
                told = dict(told_rounds(table.space, point))
                lead = unit(table.ranks[(point,)])
                for one, other in zip(path, path[1:]):
                    cell = tuple(sorted((one, other)))
                    if cell in told:
                        way = path_lead(table, told[cell])
                        lead = times(way if one < other else undoing_of(way), lead)
                self.assertEqual(path_lead(table, path), lead)
                turned += lead != unit(lead[0])
        self.assertGreater(turned, 15)

    def test_wrong_ones(self):
        WRONG["path"] = (InvalidOperation, (
            None, True, 0, "", (), [0, 1], {}, (0, 3), (0, 0), (3,), (0, 1, 1), (0, True), (False, 1), (0, "1"),
            (0, (1,)), ((0,),), (0, 1, 2, 9), (10 ** 12,), (0, -1), TWIST, (TWIST,)))
        check_wrong(self, path_lead, (TWIST, (0, 1, 2)), ("table", "path"))
        WRONG["point 2"] = (InvalidNumber, WRONG_INTEGERS + (-1, 3, 99, 100))
        check_wrong(self, told_path, (ROUND, 0, 2), ("space", "point 2", "point 2"))
        check_wrong(self, rounds, (ROUND, 0), ("space", "point 2"))
        check_wrong(self, is_local, (TWIST,), ("table",))
        refusal(self, path_lead, (constant((), 1), ()), InvalidOperation)
        refusal(self, path_lead, (constant((), 1), (0,)), InvalidOperation)
        refusal(self, rounds, ((), 0), InvalidNumber)
        refusal(self, told_path, (TWIST, 0, 1), InvalidSpace)


class Kept(unittest.TestCase):
    def test_answers(self):
        source, kinds = random.Random(5), []
        for table in LOCAL:
            for point in points_of(table):
                rank = table.ranks[(point,)]
                rows = [tuple([source.randint(-5, 5) for _ in range(rank)]), (0,) * rank]
                rows += [column for column in transposed(kept_base(table, point))[1] if max(column) < 10 ** 12]
                for row in rows:
                    word, told = round_answer(table, point, row)
                    kinds.append(word)
                    ways = rounds(table.space, point)
                    changed = [way for way in ways if moved(path_lead(table, way), row) != row]
                    if word == "round":
                        self.assertEqual(told, changed[0])
                        continue
                    self.assertEqual((word, changed), ("whole", []))
                    self.assertTrue(is_still(table, 0, told))
                    begin = 0
                    for other in points_of(table):
                        numbers = told[begin:begin + table.ranks[(other,)]]
                        begin += table.ranks[(other,)]
                        if other == point:
                            self.assertEqual(numbers, row)
                        if told_path(table.space, point, other) is None:
                            self.assertFalse(any(numbers))
                        else:
                            lead = path_lead(table, told_path(table.space, point, other))
                            self.assertEqual(numbers, moved(lead, row))
        self.assertGreater(kinds.count("round"), 20)
        self.assertGreater(kinds.count("whole"), 60)

    def test_first_changing_round(self):
        # Two rounds at 0: the first one leaves the row as it is, the last one does not.
        space = closed([(0, 1), (0, 2), (1, 2), (0, 3), (0, 4), (3, 4)])
        maps = {(face, cell): ONE for cell in space if len(cell) == 2 for face in ((cell[0],), (cell[1],))}
        maps[((4,), (3, 4))] = LESS
        table = Table(space, {cell: 1 for cell in space}, maps)
        self.assertEqual(rounds(space, 0), ((0, 1, 2, 0), (0, 3, 4, 0)))
        self.assertEqual(round_answer(table, 0, (7,)), ("round", (0, 3, 4, 0)))
        self.assertEqual(round_answer(table, 1, (7,)), ("round", (1, 0, 3, 4, 0, 1)))
        self.assertEqual(round_answer(table, 4, (0,)), ("whole", (0,) * 5))
        self.assertEqual(straight(table), ("round", (0, 3, 4, 0)))
        maps[((2,), (1, 2))] = LESS
        both = Table(space, {cell: 1 for cell in space}, maps)
        self.assertEqual([round_answer(both, 0, (7,)), straight(both)], [("round", (0, 1, 2, 0))] * 2)

    def test_edges(self):
        zero = constant(ROUND, 0)
        self.assertEqual([path_lead(zero, (0, 1, 2, 0)), round_answer(zero, 1, ())], [(0, ()), ("whole", ())])
        self.assertEqual(kept_base(zero, 1), (0, ()))
        self.assertEqual(straight(zero), ("frame", {cell: (0, ()) for cell in sorted(ROUND)}))
        pieces = turned_table(constant(NET, 1), random.Random(6))
        for point, many in ((0, 5), (8, 3), (11, 1)):
            told = round_answer(pieces, point, (4,))[1]
            self.assertEqual(len([number for number in told if number]), many)
        refusal(self, round_answer, (constant((), 1), 0, ()), InvalidNumber)
        refusal(self, kept_base, (constant((), 1), 0), InvalidNumber)

    def test_bases(self):
        source = random.Random(7)
        for table in LOCAL:
            for point in points_of(table)[:4]:
                base, rank = kept_base(table, point), table.ranks[(point,)]
                leads = [path_lead(table, way) for way in rounds(table.space, point)]
                self.assertEqual(len(base[1]), rank)
                for column in transposed(base)[1]:
                    self.assertTrue(all([moved(lead, column) == column for lead in leads]))
                turn = undone_pair(base[0], source)[0]
                right = [base, times(base, turn)]
                wrong = [(base[0] + 1, tuple([row + (0,) for row in base[1]]))]
                if base[0]:
                    wrong += [(base[0], tuple([tuple([2 * number for number in row]) for row in base[1]]))]
                    wrong += [(base[0] - 1, tuple([row[1:] for row in base[1]])), base[1]]
                if 0 < base[0] < rank:
                    wrong += [unit(rank), (base[0], tuple([row for row in unit(rank)[1]]))]
                check_judged(self, is_kept_base, (table, point), right, wrong, ODD[:40])

    def test_judging(self):
        table = constant(ROUND, 2)
        long = (2, ((1, LONG), (0, 1)))
        check_judged(
            self, is_kept_base, (table, 0), [unit(2), long, (2, ((0, 1), (-1, 0)))],
            [(2, ((1, 0), (0, 2))), (2, ((1, 1), (1, 1))), (3, ((1, 0, 0), (0, 1, 0))), (1, ((1,), (0,))),
             (2, ((True, 0), (0, 1))), (2, [(1, 0), (0, 1)]), ((1, 0), (0, 1)), (0, ((), ())),
             (2, ((1, 0), (0, 1), (0, 0)))])
        # A quarter turn leaves no row but 0; with a row that stays beside it, just this one.
        self.assertEqual(kept_base(quarter(ROUND, (1, 2)), 0), (0, ((), ())))
        check_judged(
            self, is_kept_base, (table_sum(constant(ROUND, 1), TWIST), 0), [(1, ((1,), (0,))), (1, ((-1,), (0,)))],
            [(1, ((2,), (0,))), (1, ((1,), (1,))), (1, ((0,), (1,))), (1, ((0,), (0,))), (0, ((), ())), unit(2)])
        # Of the rows that stay each one has to come: twice a base is none, though it has the same rank.
        half = Table(ROUND, {cell: 2 for cell in ROUND}, {
            **constant(ROUND, 2).maps, ((2,), (1, 2)): (2, ((1, 2), (0, -1)))})
        column = transposed(kept_base(half, 0))[1][0]
        self.assertEqual(moved(path_lead(half, (0, 1, 2, 0)), column), column)
        self.assertIs(is_kept_base(half, 0, (1, tuple([(2 * number,) for number in column]))), False)

    def test_wrong_ones(self):
        WRONG["point 2"] = (InvalidNumber, WRONG_INTEGERS + (-1, 3, 99, 100))
        WRONG["row 1"] = (InvalidRow, (
            None, True, 5, "5", [5], {}, (), (1, 2), (True,), (None,), (10 ** 12,), ((5,),), TWIST))
        check_wrong(self, round_answer, (TWIST, 0, (5,)), ("table", "point 2", "row 1"))
        check_wrong(self, kept_base, (TWIST, 0), ("table", "point 2"))
        check_wrong(self, is_kept_base, (TWIST, 0, None), ("table", "point 2", None))
        check_wrong(self, straight, (TWIST,), ("table",))
        refusal(self, straight, (ROUND,), InvalidTable)


class Straight(unittest.TestCase):
    def test_frames_and_rounds(self):
        kinds = []
        for table in LOCAL:
            names = points_of(table)
            if not names or None in [told_path(table.space, names[0], name) for name in names]:
                refusal(self, straight, (table,), InvalidOperation)
                continue
            word, told = straight(table)
            kinds.append(word)
            rank = table.ranks[(names[0],)]
            turning = [way for way in rounds(table.space, names[0]) if path_lead(table, way) != unit(rank)]
            if word == "round":
                self.assertEqual(told, turning[0])
                continue
            self.assertEqual((word, turning), ("frame", []))
            self.assertEqual(list(told), sorted(table.space))
            for face, cell in table.maps:
                # The framed map is the unit grid.
                self.assertEqual(times(told[cell], table.maps[(face, cell)]), told[face])
            small = all([abs(number) < 10 ** 12 for grid in told.values() for row in grid[1] for number in row])
            if small:
                self.assertEqual(framed(table, told), constant(table.space, rank))
            self.assertTrue(all([undoing_of(grid) for grid in told.values()]))
        self.assertGreater(kinds.count("frame"), 8)
        self.assertGreater(kinds.count("round"), 6)

    def test_pieces(self):
        refusal(self, straight, (constant((), 1),), InvalidOperation)
        refusal(self, straight, (constant(((0,), (1,)), 1),), InvalidOperation)
        refusal(self, straight, (constant(NET, 1),), InvalidOperation)
        self.assertEqual(straight(constant(((7,),), 2)), ("frame", {(7,): unit(2)}))
        # [16.5] is about one point: the first point counts.
        space = space_of(((3, 4), (3, 9), (4, 9)))
        maps = {**constant(space, 1).maps, ((9,), (3, 9)): LESS}
        self.assertEqual(straight(Table(space, {cell: 1 for cell in space}, maps)), ("round", (3, 4, 9, 3)))

    def test_state(self):
        table = constant(ROUND, 1)
        frame = straight(table)[1]
        frame[(0,)] = None
        frame.clear()
        self.assertEqual(straight(table)[1], {cell: ONE for cell in ROUND})
        self.assertEqual(table, constant(ROUND, 1))


class Times(unittest.TestCase):
    # The input of which it was told that it took long.
    MAPS = {
        ((0,), (0, 4)): ((3, 2), (4, 3)), ((0,), (0, 10)): ((-8, -5), (-3, -2)), ((0,), (0, 19)): ((2, 1), (1, 1)),
        ((0, 4), (0, 4, 10)): ((1, -1), (0, -1)), ((0, 4), (0, 4, 19)): ((1, 0), (-1, -1)),
        ((0, 10), (0, 4, 10)): ((-1, 3), (-1, 4)), ((0, 10), (0, 10, 19)): ((5, -4), (4, -3)),
        ((0, 19), (0, 4, 19)): ((1, 1), (-2, -3)), ((0, 19), (0, 10, 19)): ((-11, -6), (-9, -5)),
        ((4,), (0, 4)): ((-1, -1), (-2, -1)), ((4,), (4, 10)): ((-1, -1), (0, 1)), ((4,), (4, 19)): ((0, -1), (1, 1)),
        ((4, 10), (0, 4, 10)): ((-1, -1), (-2, -1)), ((4, 10), (4, 10, 19)): ((0, -1), (-1, 0)),
        ((4, 19), (0, 4, 19)): ((0, -1), (1, 3)), ((4, 19), (4, 10, 19)): ((1, 0), (0, 1)),
        ((10,), (0, 10)): ((1, 1), (0, 1)), ((10,), (4, 10)): ((0, -1), (1, -1)), ((10,), (10, 19)): ((3, -1), (1, 0)),
        ((10, 19), (0, 10, 19)): ((-1, 8), (-1, 7)), ((10, 19), (4, 10, 19)): ((-1, 2), (-1, 3)),
        ((19,), (0, 19)): ((-1, 0), (3, -1)), ((19,), (4, 19)): ((-1, 0), (-2, 1)), ((19,), (10, 19)): ((-1, 2), (-1,
            1))}

    def test_no_map_is_looked_at_anew(self):
        space = closed([(0, 4, 10), (0, 4, 19), (0, 10, 19), (4, 10, 19)])
        table = Table(space, {cell: 2 for cell in space}, {pair: (2, rows) for pair, rows in self.MAPS.items()})
        lead = path_lead(table, (19, 4))
        self.assertEqual(times(table.maps[((4,), (4, 19))], lead), table.maps[((19,), (4, 19))])
        self.assertLess(fastest(path_lead, table, (19, 4)), 4 * fastest(is_space, space))
        base = kept_base(table, 0)
        self.assertIs(is_kept_base(table, 0, base), True)
        row = tuple([line[0] for line in base[1]]) if base[0] else (0, 0)
        for function, arguments in ((round_answer, (0, row)), (kept_base, (0,)), (is_kept_base, (0, base))):
            self.assertLess(fastest(function, table, *arguments), 20 * fastest(is_space, space))


if __name__ == "__main__":
    unittest.main()
