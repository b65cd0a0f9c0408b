"""Maps of spaces [5.1] to [5.6]."""

import itertools
import random
import unittest

from gluewhole.errors import InvalidCell, InvalidMap, InvalidNumber, InvalidOperation, InvalidSpace, TooMany
from gluewhole.space.maps import (
    are_near, behind, cell_sign, fold_row, folded, folds, image, image_of, is_fold_row, is_lead, is_map, map_fault,
    map_grid, over, row_lead, same, step_grid)
from gluewhole.space.spaces import border, cells_of, common, degree_of, is_space, is_sub, points, space_of
from tests.helper import (
    EDGE, FILLED, ODD, ROUND, WRONG_LEADS, added, check_judged, check_wrong, closed, refusal, scaled, spaces, times)

HOUSE, SIDE = space_of(((0, 1, 2), (1, 3))), space_of(((4, 5),))
DOWN = {0: 5, 1: 4, 2: 4, 3: 5}
POINTS = tuple([(point,) for point in range(100)])
BALL = closed(list(itertools.combinations(range(5), 4)))
SPACES = tuple(spaces(51, 40, 5)) + (ROUND, FILLED, HOUSE, SIDE, EDGE, closed([(0, 1, 98, 99)]), BALL)
SMALL = (closed([(0, 1, 2, 3)]), FILLED, ROUND, HOUSE, closed([(0, 1, 2), (1, 2, 3)]), ((0,), (1,)), ((99,),), EDGE)


def is_true_map(space, other, lead):
    """Whether a lead of the points of a space leads each cell to a cell."""
    return all([tuple(sorted({lead[point] for point in cell})) in other for cell in space])


def maps_between(space, other, most):
    """Some maps from a space to another one, by trying leads in a random sequence."""
    source, found = random.Random(len(space) + 100 * len(other)), []
    names, onto = points(space), points(other)
    for _ in range(40 * most):
        lead = {point: source.choice(onto) for point in names} if onto or not names else None
        if lead is not None and is_true_map(space, other, lead) and lead not in found:
            found.append(lead)
        if len(found) == most:
            break
    return found


def crossings(row):
    """The sign of a row, by exchanging neighbours until it ascends."""
    row, sign = list(row), 1
    for _ in row:
        for at in range(len(row) - 1):
            if row[at] > row[at + 1]:
                row[at], row[at + 1], sign = row[at + 1], row[at], -sign
    return 0 if len(set(row)) < len(row) else sign


def true_folds(space):
    """All folds, cell by cell."""
    names = points(space)
    return tuple([
        (p, q) for p in names for q in names if p != q
        and all([tuple(sorted(set(cell) | {q})) in space for cell in space if p in cell])])


class Examples(unittest.TestCase):
    def test_images(self):
        self.assertEqual(
            [image(DOWN, (0, 1, 2)), cell_sign(DOWN, (0, 1)), map_grid(HOUSE, SIDE, DOWN, 1),
             map_fault(HOUSE, SIDE, {0: 5, 1: 4, 2: 4, 3: 6})],
            [(4, 5), -1, (4, ((-1, -1, 0, 1),)), ('cell', (3,))])

    def test_folds(self):
        self.assertEqual(
            [folds(HOUSE), over(HOUSE, DOWN, ((4,),)), step_grid(SIDE, SIDE, {4: 4, 5: 4}, same(SIDE), 0),
             is_fold_row(SIDE, ((4, 5),))],
            [((0, 1), (0, 2), (2, 0), (2, 1), (3, 1)), ((1,), (2,), (1, 2)), (2, ((0, 1),)), True])

    def test_one_that_raises(self):
        refusal(self, behind, ({0: 1}, {2: 3}), InvalidOperation)


class Leads(unittest.TestCase):
    def test_leads(self):
        right = ({}, {0: 0}, {99: 0, 0: 99}, {point: 5 for point in range(80)}, DOWN)
        check_judged(self, is_lead, (), right, WRONG_LEADS)

    def test_images_and_signs(self):
        source = random.Random(3)
        for _ in range(200):
            lead = {point: source.randint(0, 6) for point in range(10)}
            cell = tuple(sorted(source.sample(range(10), source.randint(1, 4))))
            row = [lead[point] for point in cell]
            self.assertEqual(image(lead, cell), tuple(sorted(set(row))))
            self.assertEqual(cell_sign(lead, cell), crossings(row))

    def test_told_signs(self):
        lead = {0: 9, 1: 8, 2: 7, 3: 6, 99: 9}
        self.assertEqual(
            [cell_sign(lead, cell) for cell in ((0,), (0, 1), (0, 1, 2), (0, 1, 2, 3), (0, 99), (0, 1, 99), (3, 99))],
            [1, -1, -1, 1, 0, 0, 1])
        self.assertEqual(image(lead, (0, 1, 99)), (8, 9))

    def test_wrong_arguments(self):
        for function in (image, cell_sign):
            check_wrong(self, function, (DOWN, (0, 1)), ("lead", "cell"))
            refusal(self, function, (DOWN, (0, 4)), InvalidOperation)
            refusal(self, function, ({}, (4,)), InvalidOperation)
            refusal(self, function, (DOWN, (1, 0)), InvalidCell)


class Maps(unittest.TestCase):
    def test_maps_and_faults(self):
        words = {}
        source = random.Random(8)
        for space in SMALL:
            for other in SMALL:
                for _ in range(30):
                    lead = {point: source.choice(points(other)) for point in points(space)}
                    fault = map_fault(space, other, lead)
                    self.assertEqual(is_map(space, other, lead), fault is None)
                    self.assertEqual(fault is None, is_true_map(space, other, lead))
                    if fault is not None:
                        self.assertEqual(fault[0], "cell")
                        before = space[:space.index(fault[1])]
                        self.assertTrue(is_true_map(before, other, lead))
                        self.assertFalse(is_true_map(before + (fault[1],), other, lead))
                    words[fault is None] = True
        self.assertEqual(len(words), 2)

    def test_faults_of_form(self):
        for value in ODD + WRONG_LEADS:
            if not is_lead(value):
                self.assertEqual(map_fault(HOUSE, SIDE, value), ("form",))
                self.assertIs(is_map(HOUSE, SIDE, value), False)
        self.assertEqual(map_fault(HOUSE, SIDE, {0: 5, 1: True}), ("form",))

    def test_faults_of_points(self):
        self.assertEqual(map_fault(HOUSE, SIDE, {}), ("point", 0))
        self.assertEqual(map_fault(HOUSE, SIDE, {0: 5, 2: 4, 3: 5}), ("point", 1))
        self.assertEqual(map_fault(HOUSE, SIDE, {**DOWN, 9: 5}), ("point", 9))
        self.assertEqual(map_fault(HOUSE, SIDE, {9: 5, 0: 4, 1: 4, 3: 4}), ("point", 2))
        self.assertEqual(map_fault(((5,),), SIDE, {5: 4, 1: 4}), ("point", 1))
        self.assertEqual(map_fault((), SIDE, {1: 4}), ("point", 1))
        self.assertEqual(map_fault(HOUSE, SIDE, {0: 9, 1: 9, 2: 9}), ("point", 3))

    def test_empty_spaces(self):
        self.assertIsNone(map_fault((), (), {}))
        self.assertIsNone(map_fault((), SIDE, {}))
        self.assertEqual(map_fault(((0,),), (), {0: 0}), ("cell", (0,)))
        self.assertEqual([same(()), image_of((), {}), over((), {}, SIDE)], [{}, (), ()])

    def test_judging(self):
        right = (DOWN, {0: 4, 1: 4, 2: 4, 3: 4}, {0: 4, 1: 5, 2: 4, 3: 4})
        wrong = ({0: 5, 1: 4, 2: 4, 3: 6}, {0: 5, 1: 4, 2: 4}, {**DOWN, 4: 4}, list(DOWN.items()))
        check_judged(self, is_map, (HOUSE, SIDE), right, wrong)
        check_judged(self, is_map, (EDGE, EDGE), ({0: 1, 1: 0},), ({0: True, 1: 0}, {False: 1, 1: 0}))

    def test_wrong_arguments(self):
        check_wrong(self, is_map, (HOUSE, SIDE, DOWN), ("space", "space", None))
        check_wrong(self, map_fault, (HOUSE, SIDE, DOWN), ("space", "space", None))

    def test_same(self):
        for space in SPACES:
            self.assertEqual(list(same(space).items()), [(point, point) for point in points(space)])
            self.assertTrue(is_map(space, space, same(space)))
        check_wrong(self, same, (HOUSE,), ("space",))

    def test_one_behind_the_other(self):
        self.assertEqual(list(behind({5: 1, 2: 0, 9: 1}, {1: 7, 0: 99, 3: 3}).items()), [(2, 99), (5, 7), (9, 7)])
        self.assertEqual(behind({}, {}), {})
        self.assertEqual(behind({}, {2: 3}), {})
        check_wrong(self, behind, ({0: 1}, {1: 3}), ("lead", "lead"))
        refusal(self, behind, ({0: 1, 1: 2}, {1: 3}), InvalidOperation)

    def test_what_is_passed_stays(self):
        lead = {2: 0, 0: 2}
        behind(lead, lead)
        made = same(EDGE)
        made[0] = 50
        self.assertEqual((list(lead.items()), same(EDGE)), ([(2, 0), (0, 2)], {0: 0, 1: 1}))

    def test_images_of_spaces_and_what_lies_over(self):
        for space in SMALL:
            for other in SMALL:
                for lead in maps_between(space, other, 4):
                    told = closed([tuple(sorted({lead[point] for point in cell})) for cell in space])
                    self.assertEqual(image_of(space, lead), told)
                    self.assertTrue(is_sub(other, told))
                    for cell in other:
                        sub = closed([cell])
                        inside = [some for some in space if {lead[point] for point in some} <= set(cell)]
                        self.assertEqual(over(space, lead, sub), tuple(inside))
                        self.assertTrue(is_space(over(space, lead, sub)))
        self.assertEqual(over(HOUSE, DOWN, ()), ())
        self.assertEqual(over(HOUSE, DOWN, SIDE), HOUSE)

    def test_wrong_arguments_of_images(self):
        check_wrong(self, image_of, (HOUSE, DOWN), ("space", "lead"))
        check_wrong(self, over, (HOUSE, DOWN, SIDE), ("space", "lead", "space"))
        for lead in ({}, {0: 5, 1: 4, 2: 4}, {**DOWN, 4: 4}):
            refusal(self, image_of, (HOUSE, lead), InvalidOperation)
            refusal(self, over, (HOUSE, lead, SIDE), InvalidOperation)


class Grids(unittest.TestCase):
    def test_they_go_with_borders(self):
        for space in SMALL:
            for other in SMALL:
                for lead in maps_between(space, other, 3):
                    for degree in (1, 2, 3):
                        one = times(border(other, degree), map_grid(space, other, lead, degree))
                        last = times(map_grid(space, other, lead, degree - 1), border(space, degree))
                        self.assertEqual(one, last)

    def test_signs_stand_at_images(self):
        for space in SMALL:
            for lead in maps_between(space, SMALL[0], 3):
                for degree in range(4):
                    rows, columns = cells_of(SMALL[0], degree), cells_of(space, degree)
                    told = tuple([
                        tuple([cell_sign(lead, cell) if image(lead, cell) == row else 0 for cell in columns])
                        for row in rows])
                    self.assertEqual(map_grid(space, SMALL[0], lead, degree), (len(columns), told))

    def test_one_behind_the_other(self):
        for first in maps_between(HOUSE, FILLED, 5):
            for last in maps_between(FILLED, SMALL[0], 5):
                self.assertTrue(is_map(HOUSE, SMALL[0], behind(first, last)))
                for degree in range(4):
                    product = times(map_grid(FILLED, SMALL[0], last, degree), map_grid(HOUSE, FILLED, first, degree))
                    self.assertEqual(map_grid(HOUSE, SMALL[0], behind(first, last), degree), product)

    def test_sizes(self):
        self.assertEqual(map_grid((), (), {}, 3), (0, ()))
        self.assertEqual(map_grid((), SIDE, {}, 1), (0, ((),)))
        self.assertEqual(map_grid(POINTS[:60], POINTS[:60], same(POINTS[:60]), 0)[0], 60)
        down = {point: 0 for point in range(61)}
        self.assertEqual(refusal(self, map_grid, (POINTS[:61], ((0,),), down, 0), TooMany).most, 60)
        self.assertEqual(refusal(self, map_grid, (((0,),), POINTS[:61], {0: 0}, 0), TooMany).most, 60)
        self.assertEqual(map_grid(POINTS[:61], POINTS[:61], same(POINTS[:61]), 1), (0, ()))

    def test_wrong_arguments(self):
        check_wrong(self, map_grid, (HOUSE, SIDE, DOWN, 1), ("space", "space", "lead", "0 to 3"))
        refusal(self, map_grid, (HOUSE, SIDE, {**DOWN, 3: 6}, 1), InvalidOperation)
        refusal(self, map_grid, (HOUSE, SIDE, {0: 4}, 1), InvalidOperation)
        refusal(self, map_grid, (HOUSE, SIDE, {0: 4}, 4), InvalidNumber)
        refusal(self, map_grid, (POINTS[:61], POINTS[:61], {0: 0}, 0), InvalidOperation)


class NearMaps(unittest.TestCase):
    def pairs(self):
        """All told pairs of maps, with their spaces and whether they are near."""
        for space in SMALL:
            for other in (SMALL[0], FILLED, HOUSE, ROUND, EDGE):
                for one, last in itertools.product(maps_between(space, other, 4), repeat=2):
                    both = [{one[point] for point in cell} | {last[point] for point in cell} for cell in space]
                    yield space, other, one, last, all([tuple(sorted(lot)) in other for lot in both])

    def test_judging(self):
        found = {}
        for space, other, one, last, near in self.pairs():
            self.assertIs(are_near(space, other, one, last), near)
            found[near] = True
        self.assertEqual(len(found), 2)

    def test_steps_join_them(self):
        for space, other, one, last, near in self.pairs():
            for degree in range(4):
                if not near:
                    refusal(self, step_grid, (space, other, one, last, degree), InvalidOperation)
                    continue
                told = added(map_grid(space, other, last, degree), scaled(map_grid(space, other, one, degree), -1))
                steps = step_grid(space, other, one, last, degree)
                self.assertEqual(steps[0], len(cells_of(space, degree)))
                self.assertEqual(len(steps[1]), len(cells_of(other, degree + 1)) if degree < 3 else 0)
                if degree < 3:
                    found = times(border(other, degree + 1), steps)
                    if degree > 0:
                        last_steps = step_grid(space, other, one, last, degree - 1)
                        found = added(found, times(last_steps, border(space, degree)))
                    self.assertEqual(found, told)

    def test_told_steps(self):
        self.assertEqual(step_grid(EDGE, EDGE, same(EDGE), same(EDGE), 0), (2, ((0, 0),)))
        self.assertEqual(step_grid(EDGE, FILLED, {0: 0, 1: 1}, {0: 1, 1: 2}, 0), (2, ((1, 0), (0, 0), (0, 1))))
        self.assertEqual(step_grid(EDGE, FILLED, {0: 0, 1: 1}, {0: 1, 1: 2}, 1), (1, ((0,),)))
        self.assertEqual(step_grid(EDGE, FILLED, {0: 0, 1: 1}, {0: 2, 1: 2}, 1), (1, ((-1,),)))
        self.assertEqual(step_grid(EDGE, FILLED, {0: 0, 1: 0}, {0: 1, 1: 2}, 1), (1, ((1,),)))

    def test_sizes(self):
        many = POINTS[:61]
        self.assertEqual(refusal(self, step_grid, (many, many, same(many), same(many), 0), TooMany).most, 60)
        self.assertEqual(step_grid(many, many, same(many), same(many), 1), (0, ()))
        edges = closed(list(itertools.combinations(range(12), 2)))
        self.assertEqual(refusal(self, step_grid, (((0,),), edges, {0: 0}, {0: 1}, 0), TooMany).most, 60)
        self.assertEqual(step_grid(((0,),), edges, {0: 0}, {0: 1}, 1), (0, ()))

    def test_what_is_near(self):
        right = ({4: 5, 5: 5}, {4: 4, 5: 4}, {4: 5, 5: 4}, {4: 4, 5: 5})
        wrong = ({4: 4}, {4: 4, 5: 6}, {4: 4, 5: 5, 6: 4}, ((4, 4), (5, 5)))
        check_judged(self, are_near, (SIDE, SIDE, same(SIDE)), right, wrong)
        check_judged(self, are_near, (EDGE, ROUND, {0: 0, 1: 0}), ({0: 0, 1: 1}, {0: 2, 1: 2}), (
            {0: 1, 1: 2}, {0: 0, 1: True}, {0: False, 1: 0}))

    def test_wrong_arguments(self):
        good = (SIDE, SIDE, same(SIDE), {4: 4, 5: 4})
        check_wrong(self, are_near, good, ("space", "space", "lead", None))
        check_wrong(self, step_grid, good + (0,), ("space", "space", "lead", "lead", "0 to 3"))
        refusal(self, are_near, (SIDE, SIDE, {4: 4}, same(SIDE)), InvalidOperation)
        refusal(self, are_near, (SIDE, SIDE, {4: 4}, None), InvalidOperation)
        refusal(self, step_grid, (SIDE, SIDE, {4: 4}, same(SIDE), 0), InvalidOperation)
        refusal(self, step_grid, (SIDE, SIDE, same(SIDE), {4: 4}, 0), InvalidOperation)
        refusal(self, step_grid, (SIDE, SIDE, {4: 4}, same(SIDE), -1), InvalidNumber)


class Folds(unittest.TestCase):
    def test_all_folds(self):
        for space in SPACES:
            self.assertEqual(folds(space), true_folds(space))
        self.assertEqual([folds(()), folds(POINTS[:80]), folds(ROUND), folds(BALL)], [(), (), (), ()])
        self.assertEqual(len(folds(closed([(0, 1, 2, 3)]))), 12)

    def test_folding(self):
        for space in SPACES:
            for point, onto in folds(space):
                rest = folded(space, point, onto)
                self.assertEqual(rest, tuple([cell for cell in space if point not in cell]))
                lead = {**same(space), point: onto}
                self.assertTrue(is_map(space, rest, lead))
                self.assertTrue(are_near(space, space, same(space), lead))

    def test_rows_of_folds(self):
        for space in SPACES:
            row = fold_row(space)
            self.assertTrue(is_fold_row(space, row))
            left, lead = space, same(space)
            for point, onto in row:
                self.assertIn((point, onto), true_folds(left))
                left = tuple([cell for cell in left if point not in cell])
                lead = behind(lead, {**{one: one for one in lead.values()}, point: onto})
            self.assertEqual(true_folds(left), ())
            self.assertEqual(list(row_lead(space, row).items()), list(lead.items()))
            self.assertTrue(is_map(space, left, row_lead(space, row)))
        self.assertEqual([fold_row(()), row_lead((), ())], [(), {}])
        self.assertEqual([fold_row(ROUND), row_lead(ROUND, ())], [(), same(ROUND)])

    def test_a_long_row(self):
        straight = closed([(point, point + 1) for point in range(39)])
        self.assertEqual(len(fold_row(straight)), 39)
        self.assertTrue(is_fold_row(straight, fold_row(straight)))
        row = tuple([(point, point + 1) for point in range(39)])
        self.assertEqual(row_lead(straight, row), {point: 39 for point in range(40)})

    def test_judging_rows(self):
        right = (((0, 1), (3, 1), (1, 2)), ((3, 1), (2, 0), (0, 1)), ((0, 2), (2, 1), (1, 3)))
        wrong = (
            ((0, 1),), ((0, 1), (3, 1)), ((0, 1), (0, 2), (3, 1)), ((1, 0), (3, 1), (2, 0)), (),
            [(0, 1), (3, 1), (1, 2)], ([0, 1], (3, 1), (1, 2)), ((0, True), (3, 1), (1, 2)),
            ((False, 1), (3, 1), (1, 2)),
            ((0, 1), (3, 1), (1, 2), (2, 2)), ((0, 1, 2), (3, 1), (1, 2)), ((0, 0), (3, 1), (1, 2)),
            ((0, 1), (3, 1), None))
        check_judged(self, is_fold_row, (HOUSE,), right, wrong)
        check_judged(self, is_fold_row, (ROUND,), ((),), (((0, 1),),))
        for value in wrong + ODD:
            if not (type(value) is tuple and value in right):
                refusal(self, row_lead, (HOUSE, value), InvalidOperation)

    def test_wrong_arguments(self):
        for function in (folds, fold_row):
            check_wrong(self, function, (HOUSE,), ("space",))
        check_wrong(self, is_fold_row, (HOUSE, ()), ("space", None))
        check_wrong(self, folded, (HOUSE, 0, 1), ("space", "point of", "point of"))
        self.assertEqual(refusal(self, folded, (HOUSE, 8, 9), InvalidNumber).given, 8)
        for point, onto in ((1, 0), (0, 0), (0, 3), (3, 0), (3, 2)):
            refusal(self, folded, (HOUSE, point, onto), InvalidOperation)
        refusal(self, row_lead, (((0, 1),), ()), InvalidSpace)
        refusal(self, row_lead, (((0, 1),), None), InvalidSpace)


class NotTrue(unittest.TestCase):
    def test_what_is_not_true(self):
        self.assertFalse(is_map(closed([(0, 1)]), closed([(0, 2), (1, 2)]), {0: 0, 1: 1}))
        one, middle, last = {0: 0, 1: 0}, {0: 0, 1: 1}, {0: 2, 1: 1}
        path = closed([(0, 1), (1, 2)])
        self.assertTrue(are_near(EDGE, path, {0: 1, 1: 1}, {0: 0, 1: 0}))
        self.assertTrue(are_near(EDGE, path, {0: 1, 1: 1}, {0: 2, 1: 2}))
        self.assertFalse(are_near(EDGE, path, {0: 0, 1: 0}, {0: 2, 1: 2}))
        self.assertNotEqual(cell_sign({0: 1, 1: 0}, (0, 1)), cell_sign({0: 1, 1: 0}, (0,)))
        self.assertEqual(degree_of(common(path, EDGE)), 1)
        self.assertEqual((is_map(EDGE, path, one), is_map(EDGE, path, middle), is_map(EDGE, path, last)), (True,) * 3)

    def test_maps_are_no_leads_of_other_kinds(self):
        refusal(self, over, (HOUSE, ((0, 5),), SIDE), InvalidMap)


if __name__ == "__main__":
    unittest.main()
