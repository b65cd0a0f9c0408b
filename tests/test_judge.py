"""The checker [19.1] to [19.6]."""

import itertools
import random
import unittest

from gluewhole.errors import InvalidClaim
from gluewhole.judge.judge import is_claim, opposite, takes
from gluewhole.near.false import near_answer, safe_answer
from gluewhole.space.spaces import space_of
from gluewhole.tables.tables import Table, constant
from gluewhole.tables.tellings import rise_grid
from tests.helper import (
    ODD, ONE, TWO, closed, dense, fastest, holds, nought, random_tables, refusal, scaled, transposed, unit)
from tests.samples import ALONE, KINDS, PAIRS, bent, samples

LONG = 10 ** 50
SAMPLES = samples()
# Three claims of each kind, with their papers.
FEW = [pair for kind in KINDS for pair in [one for one in SAMPLES if one[0][0] == kind][-3:]]


def holds_at_all(claim, paper):
    """Whether the paper shows that the claim is true, by the sums of the tests; errors of form are a no."""
    try:
        return bool(holds(claim, paper))
    except (AssertionError, TypeError, ValueError, IndexError, AttributeError, OverflowError):
        return False


def line(points):
    """The sizes and the grid of a row of points."""
    table = constant(closed([(at, at + 1) for at in range(points - 1)]), 1)
    return (1,) * points, rise_grid(table, 0)


def sizes_of(table):
    """The ranks of the points of the table."""
    return tuple([rank for cell, rank in table.ranks.items() if len(cell) == 1])


def zeros(length):
    """A fraction row of noughts."""
    return ((0, 1),) * length


class Examples(unittest.TestCase):
    def test_made_and_barred(self):
        self.assertEqual(
            [takes(("made", TWO, (6,)), (3,)), takes(("made", TWO, (6,)), (2,)), takes(("barred", TWO, (3,)), (2,
             (1,))),
             takes(("barred", TWO, (6,)), (2, (1,))), takes(("barred", TWO, (3,)), (0, (1,)))],
            [True, False, True, False, False])

    def test_claims(self):
        self.assertEqual(
            [is_claim(("made", TWO, (6, 1))), is_claim(("made modulo", TWO, (1,), 0)), opposite(("made", TWO, (6,))),
             opposite(("kernel", TWO, (0, ((),))))],
            [False, False, ("barred", (1, ((2,),)), (6,)), None])

    def test_kernels_and_exact_ones(self):
        self.assertEqual(
            [takes(("kernel", TWO, (0, ((),))), (2, (1, ()), (1, ((1,),)))),
             takes(("exact", (1, ((1,), (0,))), (2, ((0, 1),))), ((2, ((1, 0),)), (1, ((0,), (1,)))))],
            [True, True])

    def test_nearest(self):
        self.assertIs(
            takes(("nearest made", (1, ((1,), (2,))), ((1, 1), (0, 1)), ((1, 5), (2, 5))), ((1, 5),)), True)

    def test_one_that_raises(self):
        refusal(self, opposite, (("made", TWO, ()),), InvalidClaim)


class Kinds(unittest.TestCase):
    def test_all_kinds_are_taken(self):
        self.assertEqual({claim[0] for claim, _ in SAMPLES}, set(KINDS))
        for claim, paper in SAMPLES:
            self.assertIs(is_claim(claim), True, claim)
            self.assertIs(takes(claim, paper), True, (claim, paper))
            self.assertTrue(holds(claim, paper))

    def test_opposites(self):
        for one, other in PAIRS:
            for claim, paper in SAMPLES:
                if claim[0] in (one, other):
                    turned = (other if claim[0] == one else one,) + claim[1:]
                    self.assertEqual(opposite(claim), turned if is_claim(turned) else None)
                    if is_claim(turned):
                        self.assertEqual(opposite(turned), claim)
                    self.assertIs(takes(turned, paper), False)
        for claim, _ in SAMPLES:
            if claim[0] in ALONE:
                self.assertIsNone(opposite(claim))

    def test_no_paper_for_the_opposite(self):
        # [19.4]: whatever paper of any form comes, the opposite of a true claim takes none.
        papers = [paper for _, paper in FEW]
        for claim, paper in FEW:
            other = opposite(claim)
            if other is not None:
                for some in papers + list(ODD):
                    self.assertIs(takes(other, some), False, (other, some))
                for _, some in bent(paper, random.Random(1), 6):
                    self.assertIs(takes(other, some), False, (other, some))

    def test_papers_of_each_form(self):
        for claim, right in FEW:
            for _, paper in FEW:
                self.assertIs(takes(claim, paper), holds_at_all(claim, paper), (claim, paper))
            self.assertIs(takes(claim, right), True)

    def test_claims_with_other_papers(self):
        # Equal claims have more than one paper [19.6].
        for paper in ((2, (1,)), (4, (2,)), (2, (-3,)), (2, (LONG + 1,))):
            self.assertIs(takes(("barred", TWO, (3,)), paper), True)
        for paper in ((1, 0), (0, 1), (LONG, 1 - LONG)):
            self.assertIs(takes(("made", (2, ((1, 1),)), (1,)), paper), True)
        for side in (1, -1):
            self.assertIs(takes(("two sides", ((0, 1, 2), (0, 1, 3))), (side, -side)), True)
            self.assertIs(takes(("two sides", ((0, 1, 2), (0, 1, 3))), (side, side)), False)
            self.assertIs(takes(("two sides", ((0, 1, 2), (0, 2, 3))), (side, side)), True)
            self.assertIs(takes(("two sides", ((0, 1, 2), (0, 2, 3))), (side, -side)), False)


class Bent(unittest.TestCase):
    def test_bent_papers(self):
        source, found = random.Random(2), []
        for claim, paper in SAMPLES[::3] + FEW:
            for word, other in bent(paper, source, 8):
                told = takes(claim, other)
                if word == "form" and not paper_of_no_sort(claim, paper, other):
                    self.assertIs(told, False, (claim, other))
                else:
                    self.assertIs(told, holds_at_all(claim, other), (claim, other))
                found.append(told)
        self.assertGreater(found.count(False), 4000)
        self.assertGreater(found.count(True), 100)

    def test_bent_claims(self):
        # Where a claim is not true any more, the paper is not taken; where it is no claim, nothing is.
        source, found = random.Random(3), []
        for claim, paper in SAMPLES[::3] + FEW:
            for word, other in bent(claim, source, 8):
                if word == "form":
                    self.assertIs(is_claim(other), False, other)
                told = takes(other, paper)
                self.assertIs(told, is_claim(other) and holds_at_all(other, paper), (other, paper))
                if not is_claim(other):
                    refusal(self, opposite, (other,), InvalidClaim)
                found.append(told)
        self.assertGreater(found.count(False), 3000)
        self.assertGreater(found.count(True), 30)

    def test_other_values(self):
        for claim, paper in FEW:
            for value in ODD:
                if not (value == paper and repr(value) == repr(paper)) and not holds_at_all(claim, value):
                    self.assertIs(takes(claim, value), False, (claim, value))
                self.assertIs(takes(value, paper), False)
            for value in (list(claim), claim + (1,), claim[:-1], claim[:1], claim[1:], (claim,), claim[0]):
                self.assertIs(is_claim(value), False)
                self.assertIs(takes(value, paper), False)
                refusal(self, opposite, (value,), InvalidClaim)
            for kind in ("", "Made", "made ", claim[0] + "s", None, True, 0, (claim[0],), [claim[0]], {}, ONE):
                self.assertIs(is_claim((kind,) + claim[1:]), False)
        for value in ODD + tuple([(word,) for word in KINDS]) + KINDS:
            self.assertIs(is_claim(value), False)
            self.assertIs(takes(value, value), False)
            refusal(self, opposite, (value,), InvalidClaim)


def paper_of_no_sort(claim, paper, other):
    """Whether a value with a place of another form can still be a paper: () for unlike sizes is such."""
    return other == () or paper == ()


class Sizes(unittest.TestCase):
    def test_wide_grids(self):
        for size, right in ((119, True), (120, True), (121, False)):
            square, empty, wide, high = unit(size), (0, ()), (size, ()), (0, ((),) * size)
            for claim in (
                    ("undone", square), ("not undone", square), ("divisors", square, ()), ("alike", square, square),
                    ("alike", wide, high), ("unlike", empty, wide), ("unlike", high, empty), ("made", square,
                     (0,) * size),
                    ("barred", wide, ()), ("made", high, (0,) * size), ("made modulo", square, (0,) * size, 1),
                    ("barred modulo", high, (0,) * size, 7), ("same lot", wide, wide), ("unlike lots", wide, square),
                    ("kernel", wide, square), ("kernel", empty, (size, ())), ("group", high, wide, 0, ()),
                    ("group", empty, high, 3, (2, 4)), ("one to one", high, wide, high, square),
                    ("lost", empty, high, empty, empty), ("onto", wide, high, wide, square),
                    ("missed", empty, wide, empty, empty),
                    ("exact", high, wide), ("lesser", (size,), (), (0,), ()), ("lesser", (0,), (), (size,), ()),
                    ("lesser", (size, 1), ((size, ((0,) * size,)),), (1, 1), (ONE,)),
                    ("held", (size,), wide, (0,)), ("loose", (1,) * size, wide, ()), ("safe", (size,), wide, 1),
                    ("confused", (1,) * size, wide, 2), ("near", (size, 0), wide, (0,) * size, 0),
                    ("far", (0, size), wide, (0,) * size, 99), ("nearest made", high, zeros(size), zeros(size)),
                    ("nearest still", wide, zeros(size), zeros(size)),
                    ("parted", high, wide, zeros(size), zeros(size), zeros(size), zeros(size))):
                self.assertIs(is_claim(claim), right, claim[0])
                self.assertIs(takes(claim, None), False)
                if not right:
                    refusal(self, opposite, (claim,), InvalidClaim)

    def test_wide_papers(self):
        size = 120
        square = unit(size)
        self.assertIs(takes(("undone", square), square), True)
        self.assertIs(takes(("undone", square), scaled(square, -1)), False)
        self.assertIs(takes(("divisors", square, (1,) * size), (square,) * 4), True)
        self.assertIs(takes(("divisors", square, (1,) * (size - 1)), (square,) * 4), False)
        self.assertIs(takes(("made", square, (LONG,) * size), (LONG,) * size), True)
        self.assertIs(takes(("barred", scaled(square, 2), (1,) * size), (2, (1,) + (0,) * (size - 1))), True)
        self.assertIs(takes(("kernel", (size, ()), square), (1, square, (0, ((),) * size))), True)
        self.assertIs(takes(("kernel", (size, ()), square), (0, square, (0, ((),) * size))), False)
        self.assertIs(takes(("held", (1,) * size, square, (0,)), (3, (size, ((3,) + (0,) * (size - 1),)))), True)
        # A kernel of which both columns are more than 120 has no well made claim; so nothing is one to one by it.
        wide = unit(70)
        claim = ("one to one", (0, ((),) * 70), (70, ()), wide, wide)
        self.assertIs(is_claim(claim), True)
        both = (70, unit(70)[1] + scaled(unit(70), -1)[1])
        kernel = (1, unit(70), (0, ((),) * 70))
        self.assertIs(takes(claim, (unit(70), kernel, both, (1, (140, ()), (70, ())), (70, ()))), False)

    def test_long_integers(self):
        for claim, paper in (
                (("undone", (2, ((1, LONG), (0, 1)))), (2, ((1, -LONG), (0, 1)))),
                (("not undone", (1, ((LONG,),))), (LONG, (1,))),
                (("divisors", (1, ((-LONG,),)), (LONG,)), ((1, ((-1,),)), (1, ((-1,),)), ONE, ONE)),
                (("made", (1, ((LONG,),)), (LONG * LONG,)), (LONG,)),
                (("barred", (1, ((LONG,),)), (LONG + 1,)), (LONG, (1,))),
                (("made modulo", (1, ((2,),)), (1,), 2 * LONG + 1), (LONG + 1,)),
                (("barred modulo", TWO, (1,), 2 * LONG), (LONG,)),
                (("same lot", (1, ((LONG,),)), (1, ((-LONG,),))), ((1, ((-1,),)), (1, ((-1,),)))),
                (("kernel", (1, ((LONG,),)), (0, ((),))), (LONG, (1, ()), ONE)),
                (("group", (1, ((LONG,),)), (1, ()), 0, (LONG,)), (ONE, (1, ONE, (0, ((),))), (1, ((LONG,),)),
                 (ONE,) * 4)),
                (("held", (1,), (1, ((LONG,),)), (0,)), (LONG, ONE)),
                (("loose", (1,), (1, ()), (0,)), (LONG,)),
                (("safe", (1,), (1, ()), 0), ((LONG, (0, ())),)),
                (("confused", (1,), (1, ()), LONG), ((0,), (LONG,), (-LONG,))),
                (("near", (1,), (1, ((LONG,),)), (LONG,), LONG), (0,)),
                (("far", (1,), (1, ((2 * LONG,),)), (1,), 0), ((4 * LONG, (1,)),)),
                (("nearest made", (1, ((LONG,),)), ((1, 1),), ((1, 1),)), ((1, LONG),)),
                (("nearest still", (1, ((LONG,),)), ((1, 1),), ((0, 1),)), ((1, LONG),))):
            self.assertIs(is_claim(claim), True, claim)
            self.assertIs(takes(claim, paper), True, claim)
            self.assertTrue(holds(claim, paper))

    def test_long_rows(self):
        high = (1, ((2,),) * 100)
        self.assertIs(takes(("made", high, (6,) * 100), (3,)), True)
        self.assertIs(takes(("barred", high, (1,) + (0,) * 99), (0, (1, -1) + (0,) * 98)), True)
        self.assertIs(takes(("nearest made", high, ((1, 1),) * 100, ((1, 1),) * 100), ((1, 2),)), True)
        # The sizes of claims are as many as they are, with noughts among them.
        many = (0,) * 500 + (1, 0, 1)
        claim = ("loose", many, (2, ((1, -1),)), (500, 502))
        self.assertIs(takes(claim, (5, 5)), True)
        self.assertIs(is_claim(("loose", many, (2, ((1, -1),)), (499, 502))), False)
        self.assertIs(takes(("near", many, (2, ((1, -1),)), (5, 6), 1), (6, 6)), True)
        self.assertIs(takes(("near", many, (2, ((1, -1),)), (5, 6), 0), (6, 6)), False)


class Forms(unittest.TestCase):
    def test_sizes_that_do_not_fit(self):
        two = unit(2)
        for claim in (
                ("undone", (2, ((1, 2),))), ("not undone", (1, ())), ("made", two, (1,)), ("barred", (1, ()), (0,)),
                ("made modulo", two, (1, 2, 3), 5), ("barred modulo", two, (1, 2), -2), ("made modulo", two, (1, 2), 0),
                ("same lot", two, ONE), ("unlike lots", ONE, (0, ())), ("kernel", two, ONE), ("kernel", ONE, (0, ())),
                ("group", ONE, two, 0, ()), ("group", ONE, ONE, 0, ()), ("one to one", ONE, ONE, ONE, ONE),
                ("one to one", nought(1, 0), two, nought(1, 0), ONE), ("lost", nought(1, 0), ONE, nought(1, 0), two),
                ("lost", nought(1, 0), ONE, nought(2, 0), ONE), ("onto", ONE, ONE, ONE, ONE),
                ("onto", two, ONE, (1, ()), ONE), ("missed", ONE, nought(2, 1), (2, ()), ONE),
                ("missed", ONE, ONE, (2, ()), ONE), ("exact", ONE, two), ("exact", (1, ()), ONE),
                ("parted", ONE, ONE, zeros(1), zeros(1), zeros(1), zeros(1)),
                ("parted", ONE, two, zeros(2), zeros(2), zeros(2), zeros(2)),
                ("parted", ONE, nought(1, 1), zeros(1), zeros(1), zeros(2), zeros(1)),
                ("nearest made", two, zeros(1), zeros(2)), ("nearest made", two, zeros(2), zeros(3)),
                ("nearest still", (2, ((1, 1),)), zeros(1), zeros(1)), ("nearest made", ONE, (1,), zeros(1)),
                ("nearest made", ONE, ((2, 2),), zeros(1)), ("nearest made", ONE, zeros(1), ((1, -1),)),
                ("nearest made", ONE, zeros(1), ((True, 1),)), ("nearest made", ONE, [(0, 1)], zeros(1))):
            self.assertIs(is_claim(claim), False, claim)
            refusal(self, opposite, (claim,), InvalidClaim)

    def test_divisors(self):
        grid = (3, ((1, 0, 0), (0, 2, 0)))
        for found, right in (
                ((1, 2), True), ((), True), ((3,), True), ((2, 4), True), ((1, 2, 2), False), ((0,), False),
                ((2, 3), False), ((-1,), False), ((4, 2), False), ((True, 2), False), ([1, 2], False), ((1, None),
                 False)):
            self.assertIs(is_claim(("divisors", grid, found)), right, found)
        for rank, found, right in (
                (0, (), True), (LONG, (2, 4), True), (-1, (), False), (True, (), False), (0, (1,), False),
                (0, (1, 2), False), (0, (2, 3), False), (0, (2,) * 150, True), (0, [2], False), (None, (), False)):
            self.assertIs(is_claim(("group", (0, ((),)), ONE, rank, found)), right, (rank, found))

    def test_bare_rows(self):
        for sizes, grids, right in (
                ((1, 1), (TWO,), True), ((1,), (), True), ((0,), (), True), ((), (), False), ((1,) * 5, (nought(1,
                 1),) * 4, True),
                ((1,) * 6, (nought(1, 1),) * 5, False), ((1, 1, 1), (ONE, ONE), False), ((1, 2), (TWO,), False),
                ((1, 1), TWO, False), ((1, 1), (), False), ([1, 1], (TWO,), False), ((True, 1), (TWO,), False),
                ((1, -1), (TWO,), False), ((1, 1), [TWO], False), ((120,), (), True), ((121,), (), False)):
            for claim in (("lesser", sizes, grids, sizes, grids), ("lesser", sizes, grids, (1,) * len(sizes), None)):
                self.assertIs(is_claim(claim), right and claim[4] is not None, claim)
        self.assertIs(is_claim(("lesser", (1, 1), (TWO,), (1,), ())), False)
        self.assertIs(is_claim(("lesser", (1, 1), (TWO,), (0, 0), ((0, ()),))), True)

    def test_sheets(self):
        for cells, right in (
                ((), True), (((0, 1, 2),), True), (((0, 1, 2), (0, 1, 3)), True), (((0, 1, 2), (0, 1, 3), (0, 1, 4)),
                 False),
                (((0, 1, 3), (0, 1, 2)), False), (((0, 1, 2), (0, 1, 2)), False), (((0, 1),), False), (((0, 1, 2,
                 3),), False),
                (((2, 1, 0),), False), (((0, 1, 1),), False), (((0, 1, 100),), False), (((0, True, 2),), False),
                ([(0, 1, 2)], False), (([0, 1, 2],), False), ((0, 1, 2), False), (None, False), (((97, 98, 99),),
                 True)):
            for kind in ("two sides", "one side"):
                self.assertIs(is_claim((kind, cells)), right, cells)
        many = tuple(itertools.islice([(at, at + 1, at + 2) for at in range(98)], 98))
        self.assertIs(takes(("two sides", many), tuple([(-1) ** at for at in range(98)])), True)
        self.assertIs(takes(("two sides", many), (1,) * 98), False)

    def test_twisted_rows(self):
        strip = tuple(sorted([tuple(sorted([(at + step) % 5 for step in range(3)])) for at in range(5)]))
        rows = [row for row in itertools.product(range(5), repeat=6) if takes(("one side", strip), row)]
        self.assertEqual(len(rows), 10)
        for row in rows:
            self.assertTrue(holds(("one side", strip), row))
            for other in (row[:-1], row[1:], row + row[:1], list(row), row[:3] + (True,) + row[4:],
                    (5,) + row[1:-1] + (5,)):
                self.assertIs(takes(("one side", strip), other), False)
            # Twice round turns twice; thrice turns once more.
            self.assertIs(takes(("one side", strip), row + row[1:]), False)
            self.assertIs(takes(("one side", strip), row + row[1:] + row[1:]), True)
        for paper in ((), (0,), (0, 0), (-1, -1), (0, None, 0)):
            self.assertIs(takes(("one side", strip), paper), False)

    def test_seats(self):
        grid = (3, ((1, -1, 0),))
        for sizes, right in (
                ((1, 2), True), ((3,), True), ((0, 3, 0), True), ((1, 1), False), ((), False), ((4, -1), False),
                ((True, 2), False), ([1, 2], False), (3, False), ((1, 2, None), False)):
            for claim in (("held", sizes, grid, ()), ("safe", sizes, grid, 0), ("near", sizes, grid, (0, 0, 0), 0)):
                self.assertIs(is_claim(claim), right, claim)
        for lot, right in (
                ((), True), ((0,), True), ((0, 2), True), ((1,), False), ((0, 1), False), ((2, 0), False), ((0, 0),
                 False),
                ((3,), False), ((-1,), False), ((False,), False), ([0], False), (None, False), ((0, 2, 3), False)):
            self.assertIs(is_claim(("held", (1, 0, 2), grid, lot)), right, lot)
            self.assertIs(is_claim(("loose", (1, 0, 2), grid, lot)), right, lot)
        for k, right in ((0, True), (80, True), (81, True), (LONG, True), (-1, False), (True, False), (None, False),
                ("0", False)):
            for claim in (("safe", (3,), grid, k), ("confused", (3,), grid, k), ("near", (3,), grid, (1, 2, 3), k),
                          ("far", (3,), grid, (1, 2, 3), k)):
                self.assertIs(is_claim(claim), right, claim)
        for row in ((1, 2), (1, 2, 3, 4), [1, 2, 3], (1, 2, True), None):
            self.assertIs(is_claim(("near", (3,), grid, row, 0)), False)
            self.assertIs(is_claim(("far", (3,), grid, row, 0)), False)


class Lots(unittest.TestCase):
    def test_many_lots(self):
        # 16 seats have 1,820 lots of four, 17 have 2,380; 63 have 1,953 lots of two, 64 have 2,016.
        for points, k, right in ((16, 2, True), (17, 2, False), (63, 1, True), (64, 1, False), (17, 8, True), (17, 9,
                True),
                                 (120, 60, True), (120, 59, False), (120, LONG, True), (120, 0, True)):
            grid = (points, ())
            sizes = (1,) * points
            self.assertIs(is_claim(("safe", sizes, grid, k)), right, (points, k))
            self.assertIs(is_claim(("confused", sizes, grid, k)), True)
            self.assertEqual(opposite(("confused", sizes, grid, k)), ("safe", sizes, grid, k) if right else None)
            far = ("far", sizes, grid, (0,) * points, 2 * k)
            self.assertIs(is_claim(far), right)
            near = ("near",) + far[1:]
            self.assertIs(is_claim(near), True)
            self.assertEqual(opposite(near), far if right else None)
            # What stands alone without an opposite is taken all the same.
            self.assertIs(takes(near, (0,) * points), True)
            if not right:
                refusal(self, opposite, (far,), InvalidClaim)
                self.assertIs(takes(far, ()), False)

    def test_papers_for_many_lots(self):
        table = constant(closed([(at, at + 1) for at in range(15)]), 1)
        for claim, papers in (safe_answer(table, 2), near_answer(table, tuple(range(16)), 4)):
            self.assertIs(takes(claim, papers), True)
            self.assertEqual(len(papers), 1820)
            self.assertIs(takes(claim, papers[:-1]), False)
            self.assertIs(takes(claim, papers + papers[-1:]), False)
            self.assertIs(takes(claim, papers[1:] + papers[:1]), False)
            self.assertIs(takes(claim, list(papers)), False)

    def test_forms_of_safe_papers(self):
        # Two points, one of rank 2, told apart by two stretches; the pair that is bent is the last one.
        sizes, grid, last = (1, 2), (3, ((1, 0, 0), (0, 1, 0), (0, 0, 2))), (2, (3, ((2, 0, 0), (0, 2, 0), (0, 0, 1))))
        self.assertIs(takes(("safe", sizes, grid, 1), (last,)), True)
        self.assertIs(takes(("safe", sizes, grid, 0), ((1, (3, ())),)), True)
        rows = last[1][1]
        for wrong in (
                list(last), last + (0,), last[:1], last[0], None, (0, last[1]), (-2, last[1]), (True, last[1]),
                (None, last[1]), ("2", last[1]), (4, last[1]), (2, list(last[1])), (2, last[1][:1]),
                (2, last[1] + ((),)), (2, rows), (2, (2, rows)), (2, (4, rows)), (2, (True, rows)), (2, (None, rows)),
                (2, (3, list(rows))), (2, (3, rows[:2])), (2, (3, rows + rows[2:])), (2, (3, rows[:2] + ([0, 0, 1],))),
                (2, (3, rows[:2] + ((0, 0),))), (2, (3, rows[:2] + ((0, 0, 1, 0),))), (2, (3, rows[:2] + (1,))),
                (2, (3, rows[:2] + ((0, 0, True),))), (2, (3, rows[:2] + ((False, 0, 1),))),
                (2, (3, rows[:2] + ((0, None, 1),))), (2, (3, rows[:2] + ((0, 1, 1),))), (2, (3, rows[::-1])),
                (2, (3, rows[:2] + ((0, 0, 2),))), (2, (3, rows[:2] + ((0, 0, -1),))), (0, (3, ((0, 0, 0),) * 3))):
            self.assertIs(takes(("safe", sizes, grid, 1), (wrong,)), False, wrong)
            self.assertIs(takes(("held", sizes, grid, (0, 1)), wrong), False, wrong)
        for paper in ((), (last, last), [last], last, None, {0: last}):
            self.assertIs(takes(("safe", sizes, grid, 1), paper), False)
        for one in (list(sizes), (2, 1), (1, 1), (1, 2, 1), (True, 2), (1, -1, 3), None, (3,)):
            told = takes(("safe", one, grid, 1), (last,))
            self.assertIs(told, one in ((2, 1), (3,)), one)

    def test_many_sizes(self):
        # Lots of sizes that are no width of a grid are not counted.
        for sizes in ((1,) * 19000, (10 ** 99,) * 3, (LONG, 0), (0,) * 19000):
            for kind, paper in (("safe", ((1, (0, ())),)), ("confused", ((), (), ())), ("safe", ())):
                self.assertIs(takes((kind, sizes, (3, ()), 4700), paper), False)
        self.assertIs(takes(("safe", (0,) * 19000, (0, ()), 5), ((1, (0, ())),)), True)

    def test_values_near_papers(self):
        source, found = random.Random(4), []
        for table in [table for table in random_tables(191, 30, 5) if sum(sizes_of(table)) < 9]:
            for k in range(3):
                claim, paper = safe_answer(table, k)
                self.assertIs(takes(claim, paper), True)
                self.assertTrue(holds(claim, paper))
                self.assertIs(takes(opposite(claim), paper), False)
                for word, other in bent(paper, source, 12):
                    found.append(takes(claim, other))
                    self.assertIs(found[-1], word != "form" and holds_at_all(claim, other), (claim, other))
                for _, other in bent(claim, source, 8):
                    found.append(takes(other, paper))
                    self.assertIs(found[-1], is_claim(other) and holds_at_all(other, paper), (other, paper))
        self.assertGreater(found.count(False), 2000)
        self.assertGreater(found.count(True), 50)

    def test_confused_ones(self):
        sizes, grid = line(5)
        claim = ("confused", sizes, grid, 3)
        one, other = (1,) * 5, (0,) * 5
        for paper, right in (
                ((one, other, (1, 1, 0, 0, 0)), True), ((other, one, (1, 1, 0, 0, 0)), True),
                ((one, other, (1, 1, 1, 1, 0)), False), ((one, one, one), False), ((one, other, (7, 7, 7, 1, 0)),
                 False),
                ((one, other, (1, 1, 0, 7, 0)), True), ((one, (0, 0, 0, 0, 1), one), False), ((one, other), False),
                ([one, other, (1, 1, 0, 0, 0)], False), ((one, other, (1, 1, 0, 0)), False),
                (((5,) * 5, (6,) * 5, (5, 5, 6, 6, 0)), True), ((one, other, (True, 1, 0, 0, 0)), False)):
            self.assertIs(takes(claim, paper), right, paper)


class Reasons(unittest.TestCase):
    def test_exact_ones(self):
        into, onto = (1, ((1,), (0,))), (2, ((0, 1),))
        right = ((2, ((1, 0),)), (1, ((0,), (1,))))
        self.assertIs(takes(("exact", into, onto), right), True)
        self.assertIs(takes(("exact", into, onto), ((2, ((1, 5),)), (1, ((-5,), (1,))))), True)
        self.assertIs(takes(("exact", into, onto), ((2, ((1, 5),)), (1, ((5,), (1,))))), False)
        for bad in (("exact", into, (2, ((0, 2),))), ("exact", (1, ((2,), (0,))), onto), ("exact", into, (2, ((1,
                1),))),
                    ("exact", (0, ((), ())), onto), ("exact", into, (2, ()))):
            self.assertIs(is_claim(bad), True)
            for paper in (right, ((2, ()), (1, ((0,), (1,)))), ((2, ((1, 0),)), (0, ((), ())))):
                self.assertIs(takes(bad, paper), False)
        self.assertIs(takes(("exact", (0, ()), (0, ())), ((0, ()), (0, ()))), True)
        self.assertIs(takes(("exact", (1, ((1,),)), (1, ())), (ONE, (0, ((),)))), True)

    def test_papers_for_nothing(self):
        # A reading of noughts, or modulo 1, bars nothing.
        for paper in ((0, (0,)), (1, (1,)), (-2, (1,)), (2, ()), (2, (1, 1)), (2, (2,)), (True, (1,)), (2, (True,))):
            self.assertIs(takes(("barred", TWO, (3,)), paper), False)
            self.assertIs(takes(("not undone", TWO), paper), False)
        self.assertIs(takes(("not undone", TWO), (2, (1,))), True)
        self.assertIs(takes(("made", (0, ()), ()), ()), True)
        self.assertIs(takes(("barred", (0, ()), ()), (0, ())), False)
        self.assertIs(takes(("barred", (0, ((),)), (1,)), (0, (1,))), True)
        self.assertIs(takes(("undone", (0, ())), (0, ())), True)
        self.assertIs(takes(("loose", (1,), (1, ()), (0,)), (0,)), False)
        self.assertIs(takes(("loose", (1, 1), (2, ()), (0,)), (1, 1)), False)
        self.assertIs(takes(("held", (), (0, ()), ()), (1, (0, ()))), True)
        self.assertIs(takes(("held", (), (0, ()), ()), (0, (0, ()))), False)

    def test_unlike_ones(self):
        self.assertIs(takes(("unlike", ONE, (1, ())), ()), True)
        self.assertIs(takes(("unlike", ONE, TWO), ()), False)
        some = ((1,), (ONE,) * 4, (2,), (ONE,) * 4)
        self.assertIs(takes(("unlike", ONE, TWO), some), True)
        self.assertIs(takes(("unlike", ONE, ONE), some), False)
        self.assertIs(takes(("unlike", ONE, ONE), ((1,), (ONE,) * 4) * 2), False)
        # Unlike sizes have the paper () alone, though divisors are unlike, too.
        wide = (2, ((2, 0),))
        back = ((2,), (ONE, ONE, unit(2), unit(2)))
        self.assertIs(takes(("unlike", ONE, wide), ((1,), (ONE,) * 4) + back), False)
        self.assertIs(takes(("unlike", ONE, wide), []), False)
        self.assertIs(takes(("alike", ONE, wide), (ONE, ONE, ONE, ONE)), False)

    def test_unlike_lots(self):
        one, other = (1, ((4,), (6,))), (1, ((2,), (3,)))
        self.assertIs(takes(("unlike lots", one, other), (1, 1, (2, (1,)))), True)
        for paper in ((0, 1, (2, (1,))), (1, 0, (2, (1,))), (1, -1, (2, (1,))), (1, 2, (2, (1,))), (2, 1, (2, (1,))),
                      (True, 1, (2, (1,))), (1, True, (2, (1,))), (-1, 1, (2, (1,))), (1, 1, (2, (2,))), (1, 1)):
            self.assertIs(takes(("unlike lots", one, other), paper), False, paper)
        self.assertIs(takes(("unlike lots", other, one), (0, 1, (2, (1,)))), True)

    def test_great_claims_end(self):
        grid = dense(120, 120, 5, 10 ** 12)
        self.assertIs(takes(("undone", grid), transposed(grid)), False)
        self.assertIs(is_claim(("group", grid, grid, 0, ())), False)
        self.assertIs(takes(("made", grid, (0,) * 120), (0,) * 120), True)
        table = constant(space_of(((0, 1),)), 1)
        self.assertIs(takes(*near_answer(table, (1, 1), 0)), True)


class Times(unittest.TestCase):
    def test_values_that_are_no_papers(self):
        # The input of which it was told that it took long: a point and six stretches that lead it to squares.
        space = closed([(0, at) for at in range(1, 7)])
        rows = ((1, -3, 9), (1, -2, 4), (1, -1, 1), (1, 0, 0), (1, 1, 1), (1, 2, 4))
        maps = {((at,), (0, at)): ONE for at in range(1, 7)}
        maps.update({((0,), (0, at + 1)): (3, (row,)) for at, row in enumerate(rows)})
        table = Table(space, {cell: 3 if cell == (0,) else 1 for cell in space}, maps)
        claim, paper = safe_answer(table, 2)
        self.assertEqual((claim[0], len(paper), takes(claim, paper)), ("safe", 35, True))
        n, (width, lines) = paper[-1]
        # A wrong number in the last pair is found by all sums, other values are by their forms alone.
        number = paper[:-1] + ((n + 1, (width, lines)),)
        form = paper[:-1] + ((n, (width, lines[:-1] + (list(lines[-1]),))),)
        most = fastest(safe_answer, table, 2, calls=1)
        for value, part in ((paper, 1), (number, 1), (form, 4), (paper[:-1], 60), (list(paper), 60), (None, 60)):
            self.assertIs(takes(claim, value), value == paper)
            self.assertLess(part * fastest(takes, claim, value, calls=1), most)


if __name__ == "__main__":
    unittest.main()
