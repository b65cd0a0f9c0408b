"""What holds over the whole program: the conventions [0.1] to [0.15] and the main statements [0.16] to [0.21]."""

import copy
import importlib
import inspect
import itertools
import random
import unittest

from gluewhole import errors
from gluewhole.base.made import made_answer
from gluewhole.book.book import Book
from gluewhole.judge.judge import is_claim, opposite, takes
from gluewhole.keep.finer import finer_table, led_there
from gluewhole.keep.pairings import all_pairings, kept, kept_made, lesser
from gluewhole.near.false import differing, least_lot, near_answer, safe_answer
from gluewhole.near.nearest import Talk, distance, nearest_still_answer
from gluewhole.rows.halves import extend_answer as half_extend_answer
from gluewhole.rows.halves import glue_answer, half_groups
from gluewhole.rows.long import Short, origin_of
from gluewhole.space.spaces import pieces
from gluewhole.tables.groups import Makers, Rows, alike_answer, group, group_answer, rows_of, telling_answer
from gluewhole.tables.readings import fallen_answer, is_quiet, reading_group, turned_rows
from gluewhole.tables.tables import Table, constant, inside, outside
from gluewhole.tables.tellings import is_still, rise_grid, sizes
from gluewhole.tables.wholes import board, extend_answer, wish
from gluewhole.turn.walks import is_local, round_answer
from gluewhole.use.shell import Shell
from gluewhole.use.texts import table_text
from tests.helper import (
    EDGE, FILLED, ODD, ONE, ROUND, TWIST, TWO, closed, degrees_of, moved, nought, product_sum, random_tables, some_row,
    stills, told_faces, turned_table, unit)
from tests.samples import KINDS, samples
from tests.test_interface import CLASSES, FUNCTIONS

PATH = constant(closed([(0, 1), (1, 2)]), 1)
HALF, QUARTER = Rows((1, 1), (TWO,)), Rows((1, 1), ((1, ((4,),)),))
BALL = closed(itertools.combinations(range(4), 3))
ENDS = ((0,), (1,))
LINE = constant(EDGE, 1)
INTO = {(0,): (0, ((),)), (1,): (0, ((),)), (0, 1): ONE}
ONTO = {(0,): ONE, (1,): ONE, (0, 1): (1, ())}
SHORT = Short(outside(LINE, ENDS), LINE, inside(LINE, ENDS), INTO, ONTO)
PLAIN = rows_of(constant(ROUND, 1))
FIRST = ((0, 0, 0),)
TRIPLE = kept(PLAIN, FIRST)
LEAD = {0: 0, 1: 1, 2: 0}
SAME = {cell: ONE for cell in ROUND}
A, TURN = (2, ((1, 2), (0, 3))), (2, ((1, 2), (0, 1)))

# Right arguments for each function of the interface.
GOOD = {
    "gluewhole.base.numbers": {
        "is_integer": (5,), "is_row": ((1,),), "is_grid": (A,), "dot": ((1, 2), (3, 4)), "row_sum": ((1,), (2,)),
        "row_difference": ((1,), (2,)), "row_multiple": ((1,), 2), "is_nought": (4, 2), "shared": (12, 18),
        "unit_grid": (2,), "nought_grid": (1, 2), "turned": (A,), "grid_multiple": (A, 3), "grid_sum": (A, A),
        "grid_difference": (A, TURN), "grid_product": (A, TURN), "beside": (A, A), "over": (A, A), "led": (A, (1, 2)),
        "read_by": ((1, 2), A)},
    "gluewhole.base.diagonal": {
        "divisors": (A,), "rank": (A,), "kernel_number": (A, 6), "undone_answer": (A,), "divisors_answer": (A,),
        "alike_answer": (A, TURN)},
    "gluewhole.base.made": {
        "made_answer": (A, (1, 3)), "made_modulo_answer": (A, (1, 1), 3), "stairs": (A,), "lots_answer": (A, TURN),
        "kernel": ((2, ((1, 1),)),), "kernel_answer": ((2, ((1, 1),)),), "coordinates": ((1, ((1,), (2,))), (3, 6))},
    "gluewhole.space.spaces": {
        "is_cell": ((0, 1),), "is_space": (ROUND,), "faces": ((0, 1),), "parts": ((0, 1, 2),), "space_of": (((0, 1),),),
        "degree_of": (ROUND,), "points": (ROUND,), "cells_of": (ROUND, 1), "tops": (ROUND,), "count": (ROUND,),
        "border": (ROUND, 1), "skeleton": (ROUND, 0), "star": (ROUND, (0,)), "closed_star": (ROUND, (0,)),
        "link": (ROUND, (0,)), "is_sub": (ROUND, EDGE), "is_open": (ROUND, ((0, 1),)), "joined": (ROUND, EDGE),
        "common": (ROUND, EDGE), "cone": (EDGE, 9), "hang_answer": (ROUND, 0, 2), "is_path": (ROUND, 0, 1, (0, 1)),
        "is_side": (((0,), (1,)), 0, 1, (0,)), "pieces": (ROUND,)},
    "gluewhole.space.maps": {
        "is_lead": (LEAD,), "is_map": (ROUND, EDGE, LEAD), "map_fault": (ROUND, EDGE, LEAD), "image": (LEAD, (0, 1)),
        "cell_sign": (LEAD, (0, 1)), "same": (ROUND,), "behind": (LEAD, LEAD), "image_of": (ROUND, LEAD),
        "over": (ROUND, LEAD, ((0,),)), "map_grid": (ROUND, EDGE, LEAD, 1),
        "step_grid": (EDGE, EDGE, {0: 0, 1: 0}, {0: 0, 1: 1}, 0), "are_near": (EDGE, EDGE, {0: 0, 1: 0}, {0: 0, 1: 1}),
        "folds": (EDGE,), "folded": (EDGE, 0, 1), "fold_row": (EDGE,), "is_fold_row": (EDGE, ((0, 1),)),
        "row_lead": (EDGE, ((0, 1),))},
    "gluewhole.tables.tables": {
        "table_fault": (ROUND, TWIST.ranks, TWIST.maps), "constant": (ROUND, 1), "on_star": (ROUND, (0,), 1),
        "on_parts": (ROUND, (0, 1), 1), "restricted": (TWIST, EDGE), "inside": (TWIST, EDGE), "outside": (TWIST, EDGE),
        "table_sum": (TWIST, TWIST), "table_product": (TWIST, TWIST), "pulled": (LINE, ROUND, LEAD),
        "framed": (LINE, {cell: ONE for cell in EDGE})},
    "gluewhole.tables.tellings": {
        "sizes": (TWIST,), "spots": (TWIST, 1), "is_telling": (TWIST, 0, (1, 2, 3)), "is_still": (TWIST, 0, (0, 0, 0)),
        "rise_grid": (TWIST, 0), "rise": (TWIST, 0, (1, 2, 3)), "part": (TWIST, 0, (1, 2, 3), (1,)),
        "on_cells": (TWIST, 0, {(1,): (5,)}), "carrier": (TWIST, 0, (0, 1, 0)), "spread": (TWIST, 0, (0,), (3,), (0,
        1))},
    "gluewhole.tables.wholes": {
        "whole_base": (PATH,), "is_whole_base": (PATH, ((1, 1, 1),)), "says": (PATH, (1, 1, 1), (0, 1)),
        "board": (PATH, ((0,),)), "wish": (PATH, {(0,): (3,)}), "extend_answer": (PATH, {(0,): (3,)}),
        "cover_fault": (PATH, EDGE, PATH.space), "put_together": (PATH, EDGE, (3, 3), PATH.space, (3, 3, 3))},
    "gluewhole.tables.groups": {
        "rows_of": (TWIST,), "is_still_row": (PLAIN, 0, (1, 1, 1)), "rise_of": (PLAIN, 0, (1, 2, 3)),
        "telling_answer": (PLAIN, 1, (1, 2, 3)), "alike_answer": (PLAIN, 1, (1, 2, 3), (0, 0, 1)), "group": (PLAIN, 1),
        "group_answer": (PLAIN, 1), "are_makers": (PLAIN, 1, ((1, 0, 0),))},
    "gluewhole.tables.readings": {
        "turned_rows": (PLAIN,), "fall": (PLAIN, 1, (1, 2, 3)), "is_quiet": (PLAIN, 1, (0, (1, -1, 1))),
        "fallen_answer": (PLAIN, 0, (1, 2, 3)), "reading_group": (PLAIN, 0), "pairing": (PLAIN, 0),
        "is_pairing": (PLAIN, 0, (((1, 1, 1),), ((1, 0, 0),))), "row_order": (HALF, 0, (1,)),
        "link": (HALF, 0, (1,), (1,)), "linked_telling": (HALF, 0, (1,)), "quiet_classes": (HALF, 1, 4)},
    "gluewhole.rows.maps": {
        "is_rows_map": (HALF, QUARTER, (ONE, TWO)), "is_table_map": (TWIST, TWIST, SAME), "rows_map": (TWIST, TWIST,
        SAME),
        "led": (HALF, QUARTER, (ONE, TWO), 1, (3,)), "led_on": (HALF, QUARTER, QUARTER, (ONE, TWO), (ONE, ONE)),
        "led_group": (HALF, QUARTER, (ONE, TWO), 1), "one_to_one_answer": (HALF, QUARTER, (ONE, TWO), 1),
        "onto_answer": (HALF, QUARTER, (ONE, TWO), 1), "kernel_table": (TWIST, TWIST, SAME),
        "is_kernel_table": (TWIST, TWIST, SAME, (constant(ROUND, 0), {cell: (0, ((),)) for cell in ROUND})),
        "image_table": (TWIST, TWIST, SAME), "is_image_table": (TWIST, TWIST, SAME, (TWIST, SAME, SAME))},
    "gluewhole.rows.long": {
        "short_fault": (outside(LINE, ENDS), LINE, inside(LINE, ENDS), INTO, ONTO), "splits": (SHORT,),
        "is_splits": (SHORT, {(0,): ((1, ()), ONE), (1,): ((1, ()), ONE), (0, 1): (ONE, (0, ((),)))}),
        "raised": (SHORT, 0, (3, 5)), "is_raised": (SHORT, 0, (3, 5), ((2,), (3, 5))),
        "origin_of": (SHORT, "last", 0, (4, 4)), "is_origin": (SHORT, "last", 0, (4, 4), ("from", (4, 4), ())),
        "long_ranks": (SHORT,)},
    "gluewhole.rows.halves": {
        "are_halves": (EDGE, (EDGE, ENDS)), "common_part": (LINE, EDGE, ENDS), "part_on": (LINE, ENDS, 0, (1, 2)),
        "put_out": (LINE, ((0,),), 0, (1,)), "union": (LINE, EDGE, ENDS, 0, (1, 2), (1, 2)),
        "glue_answer": (LINE, EDGE, ENDS, 0, (1, 1), (1, 1)), "glued": (LINE, EDGE, ENDS, 0, (1, 1), (1, 1)),
        "is_glued": (LINE, EDGE, ENDS, 0, (1, 1), (1, 1), ((1, 1), (), ())), "raised": (LINE, EDGE, ENDS, 0, (1, 2)),
        "sides_grid": (LINE, EDGE, ENDS, 0), "sides_answer": (LINE, EDGE, ENDS, 0, (1, 2)),
        "from_common": (LINE, EDGE, ENDS, 1, (3,)), "extend_answer": (LINE, ENDS, 0, (1, 2)),
        "half_groups": (LINE, EDGE, ENDS)},
    "gluewhole.keep.pairings": {
        "are_pairings": (PLAIN, FIRST), "lesser": (PLAIN, FIRST), "kept": (PLAIN, FIRST),
        "is_kept": (PLAIN, lesser(PLAIN, FIRST), TRIPLE), "all_pairings": (PLAIN,),
        "are_all_pairings": (PLAIN, all_pairings(PLAIN)),
        "kept_on": (PLAIN, lesser(PLAIN, FIRST), lesser(PLAIN, FIRST * 2), TRIPLE, kept(lesser(PLAIN, FIRST), FIRST)),
        "kept_made": (PLAIN, lesser(PLAIN, FIRST), TRIPLE, 1, (2, 4, 2), (0, 2))},
    "gluewhole.keep.finer": {
        "finer_space": (EDGE,), "ladder": (EDGE, (0, 2)), "last_lead": (EDGE,), "finer_table": (LINE,),
        "led_there": (LINE, 0, (1, 2)), "led_back": (LINE, 1, (1, 2)), "telling_step": (LINE, 1, (1, 2))},
    "gluewhole.turn.walks": {
        "is_local": (TWIST,), "path_lead": (TWIST, (0, 1)), "told_path": (ROUND, 0, 2), "rounds": (ROUND, 0),
        "round_answer": (TWIST, 0, (5,)), "kept_base": (TWIST, 0), "is_kept_base": (TWIST, 0, (0, ((),))),
        "straight": (LINE,)},
    "gluewhole.turn.sides": {
        "is_sheet": (BALL,), "is_surface": (BALL,), "sides_answer": (BALL,), "sides_table": (BALL,)},
    "gluewhole.near.false": {
        "seats": (PATH,), "held_answer": (PATH, (0,)), "safe_answer": (PATH, 1), "near_answer": (PATH, (1, 1, 2), 1),
        "least_lot": (PATH,), "differing": (PATH, (1, 1, 2), (1, 1, 1))},
    "gluewhole.near.nearest": {
        "square": (((1, 2),),), "distance": (((1, 2),), ((1, 3),)),
        "nearest_made_answer": (A, ((1, 2), (1, 3))), "nearest_still_answer": (A, ((1, 2), (1, 3))),
        "parted_answer": ((1, ((1,), (1,))), (2, ((1, -1),)), ((1, 2), (1, 3)))},
    "gluewhole.judge.judge": {
        "is_claim": (("made", TWO, (6,)),), "takes": (("made", TWO, (6,)), (3,)), "opposite": (("made", TWO, (6,)),)},
    "gluewhole.book.book": {"kept_word": ("made", 1, ("put", (0, 1)))},
    "gluewhole.use.texts": {
        "grid_text": (A,), "table_text": (TWIST,), "read_grid": ("2x0:",), "read_table": (table_text(TWIST),)},
}
# The parameters that are judged.
JUDGED = ("value", "claim", "paper")


def functions():
    """The functions of the interface with right arguments."""
    for path, told in GOOD.items():
        for name, arguments in told.items():
            yield getattr(importlib.import_module(path), name), arguments


def weighing(table):
    """Whether all integers in the maps of the table can be passed."""
    return all([abs(n) < 10 ** 12 for grid in table.maps.values() for row in grid[1] for n in row])


TABLES = [table for table in random_tables(220, 30, 5) if weighing(table)]


def tellings(table, degree, source):
    """Some tellings of the degree: still ones, made ones, and others."""
    return stills(table, degree, source, 2) + [some_row(sizes(table)[degree], source, 2)]


def book_of(table):
    """The book with the cells of the table."""
    book = Book()
    for cell in table.space:
        book.put(cell, table.ranks[cell], {face: table.maps[(face, cell)] for _, face in told_faces(cell)})
    return book


class Conventions(unittest.TestCase):
    def test_all_functions_stand_here(self):
        for path, told in FUNCTIONS.items():
            names = [heading.split("(")[0] for heading in " ".join(told.split()).split("), ")]
            self.assertEqual(sorted(GOOD[path]), sorted(names), path)
        self.assertEqual(sorted(GOOD), sorted(FUNCTIONS))

    def test_arguments_are_not_changed(self):
        for function, arguments in functions():
            before = copy.deepcopy(arguments)
            one = function(*arguments)
            self.assertEqual(arguments, before, function.__name__)
            self.assertEqual(function(*copy.deepcopy(before)), one, function.__name__)
            for value in arguments:
                if isinstance(value, dict):
                    self.assertEqual(list(value), list(before[arguments.index(value)]))

    def test_results_share_nothing(self):
        # What is done to a returned dict changes neither what is passed nor what is returned again.
        for function, arguments in functions():
            one, before = function(*arguments), copy.deepcopy(arguments)
            told = copy.deepcopy(one)
            for value in one if isinstance(one, tuple) else (one,):
                if isinstance(value, dict):
                    value.clear()
                if isinstance(value, Table):
                    value.ranks.clear()
                    value.maps.clear()
            self.assertEqual(function(*arguments), told, function.__name__)
            self.assertEqual(arguments, before)

    def test_parameters_are_passed_by_position(self):
        for function, arguments in functions():
            told = inspect.signature(function).parameters.values()
            self.assertEqual(len(told), len(arguments))
            self.assertTrue(all([one.default is inspect.Parameter.empty for one in told]), function.__name__)

    def test_judges_take_each_value(self):
        # Functions that judge return False for values of every other kind, and never raise.
        judged = 0
        for function, arguments in functions():
            names = list(inspect.signature(function).parameters)
            if not function.__name__.startswith(("is_", "are_")) and function.__name__ != "takes":
                continue
            self.assertIs(function(*arguments), True, function.__name__)
            for at, name in enumerate(names):
                if name not in JUDGED:
                    continue
                for value in ODD + (Book(), Shell(), Talk(PATH, 0, (0, 3, 0)), HALF, SHORT, Makers(HALF, 1), [TWIST]):
                    told = function(*arguments[:at], value, *arguments[at + 1:])
                    self.assertIn(told, (True, False), function.__name__)
                    self.assertIs(type(told), bool, function.__name__)
                    judged += not told
        self.assertGreater(judged, 2000)

    def test_integers_are_no_booleans(self):
        # Where the first integer in a judged value is 0 or 1, False or True in its place is not judged right.
        found = 0
        for function, arguments in functions():
            names = list(inspect.signature(function).parameters)
            if function.__name__.startswith(("is_", "are_")) and names[-1] == "value":
                for value in turned_ones(arguments[-1]):
                    self.assertIs(function(*arguments[:-1], value), False, (function.__name__, value))
                    found += 1
        self.assertGreater(found, 100)

    def test_errors_of_objects(self):
        for path, told in CLASSES.items():
            for name in told:
                made = getattr(importlib.import_module(path), name)
                self.assertFalse(hasattr(made, "__iter__"), name)
                self.assertFalse(hasattr(made, "__getitem__"), name)

    def test_objects_are_equal_to_their_like_alone(self):
        objects = [
            TWIST, PLAIN, Makers(PLAIN, 0), SHORT, Talk(PATH, 0, (0, 3, 0)), Book(), Shell(), constant((), 1), HALF]
        for one, other in itertools.product(objects, repeat=2):
            self.assertIs(one == other, one is other)
            self.assertIs(one in [other], one is other)
            self.assertIs(one in (None, 0, other), one is other)
        for one in objects:
            self.assertRaises(TypeError, iter, one)
            for value in ODD:
                self.assertIs(one == value, value is one)
                self.assertIs(value in Book(), False)

    def test_errors(self):
        for name in ("InvalidRow", "InvalidGrid", "InvalidCell", "InvalidSpace", "InvalidMap", "InvalidTable",
                     "InvalidTelling", "InvalidRows", "InvalidClaim", "InvalidOperation", "ParseError"):
            self.assertEqual(getattr(errors, name).__bases__, (errors.GlueError,))
        self.assertEqual(
            [errors.GlueError.__bases__, errors.InvalidNumber.__bases__, errors.UnknownName.__bases__,
             errors.TooMany.__bases__, errors.Refused.__bases__],
            [(ValueError,), (IndexError,), (KeyError,), (OverflowError,), (ArithmeticError,)])


def turned_ones(value):
    """The values with one 0 or 1 in them turned to False or True."""
    if isinstance(value, dict):
        return [{**value, key: other} for key in value for other in turned_ones(value[key])]
    if isinstance(value, tuple):
        return [value[:at] + (other,) + value[at + 1:] for at, item in enumerate(value) for other in turned_ones(item)]
    if isinstance(value, int) and value in (0, 1):
        return [value == 1]
    return []


class WholeOrBarred(unittest.TestCase):
    def test_claims_and_papers(self):
        kinds = set()
        for claim, paper in samples():
            kinds.add(claim[0])
            self.assertIs(is_claim(claim), True)
            self.assertIs(takes(claim, paper), True)
            other = opposite(claim)
            if other is not None:
                self.assertIs(takes(other, paper), False)
        self.assertEqual(kinds, set(KINDS))

    def test_one_answer_whoever_asks(self):
        source, kinds = random.Random(1), []
        for table in TABLES:
            rows, book, space = rows_of(table), book_of(table), table.space
            last = len(rows) - 1
            pairings = all_pairings(rows)
            other, triple = lesser(rows, pairings), kept(rows, pairings)
            for degree in degrees_of(table):
                low = rows.grid(degree - 1)
                makers = Makers(rows, degree)
                for telling in tellings(table, degree, source):
                    word = made_answer(low, telling)[0][0]
                    kinds.append(word)
                    zero = (0,) * len(telling)
                    self.assertEqual(telling_answer(rows, degree, telling)[0], (word, low, telling))
                    self.assertEqual(alike_answer(rows, degree, telling, zero)[0], (word, low, telling))
                    self.assertEqual(fallen_answer(turned_rows(rows), last - degree, telling)[0][0], word)
                    book.ask("a", degree, telling)
                    self.assertEqual(book.answer("a")[0], (word, low, telling))
                    book.drop("a")
                    if not is_still(table, degree, telling):
                        self.assertEqual(word, "barred")
                        continue
                    self.assertEqual(word == "made", not any(makers.coordinates(telling)))
                    self.assertEqual(glue_answer(table, space, space, degree, telling, zero)[0], (word, low, telling))
                    goal = moved(triple[0][degree], telling)
                    claim, paper = telling_answer(other, degree, goal)
                    self.assertEqual(claim[0], word)
                    if word == "made":
                        maker = kept_made(rows, other, triple, degree, telling, paper)
                        self.assertEqual(moved(low, maker), telling)
                    else:
                        modulus, row = telling_answer(rows, degree, telling)[1]
                        self.assertTrue(is_quiet(rows, degree, (modulus, row)))
        self.assertGreater(min(kinds.count("made"), kinds.count("barred")), 100)

    def test_origins_and_halves(self):
        # What the long row says to be barred is barred by a paper that the checker takes.
        source, words = random.Random(2), []
        for table in TABLES:
            cut = closed(table.space[:source.randint(0, len(table.space))])
            first, last = outside(table, cut), inside(table, cut)
            into = {cell: part_grid(first.ranks[cell], table.ranks[cell]) for cell in table.space}
            onto = {cell: part_grid(table.ranks[cell], last.ranks[cell]) for cell in table.space}
            short = Short(first, table, last, into, onto)
            for degree in degrees_of(table):
                for telling in stills(last, degree, source, 2):
                    told = origin_of(short, "last", degree, telling)
                    words.append(told[0])
                    if told[0] == "to":
                        claim = ("barred", rise_grid(first, degree), told[1])
                        self.assertIs(takes(claim, told[3:]), True)
                    # [13.6] asks the same of the tables: what extends from the sub-space is not barred there.
                    claim, paper = half_extend_answer(table, cut, degree, telling)
                    self.assertIs(takes(claim, paper), True)
                    if claim[0] == "made":
                        self.assertEqual(told[0], "from")
        self.assertGreater(min(words.count("from"), words.count("to")), 5)

    def test_wholes_from_points(self):
        # Stage 8: told points extend exactly if rows of the points and the rises of the rest say so.
        source = random.Random(3)
        for table in TABLES:
            points = [cell for cell in table.space if len(cell) == 1]
            for whole in stills(table, 0, source, 2):
                told = split(table, whole)
                some = {cell: told[cell] for cell in points if source.random() < 0.5}
                claim, paper = extend_answer(table, some)
                self.assertEqual(claim[0], "made")
                self.assertIs(takes(claim, paper), True)
                bent = {cell: row[:-1] + (row[-1] + source.choice((0, 1)),) for cell, row in some.items() if row}
                claim, paper = extend_answer(table, bent)
                told_claim = made_answer(board(table, tuple(sorted(bent))), wish(table, bent))[0]
                self.assertEqual(claim, told_claim)
                self.assertIs(takes(claim, paper), True)
            if points:
                wrong = {cell: some_row(table.ranks[cell], source) for cell in points}
                claim, paper = extend_answer(table, wrong)
                row = tuple([number for cell in points for number in wrong[cell]])
                self.assertEqual(claim[0] == "made", is_still(table, 0, row))
                self.assertIs(takes(claim, paper), True)


def part_grid(width, height):
    """The grid that leads a part of the rank to itself: all of it, or nothing."""
    return unit(width) if width == height else nought(height, width)


def split(table, whole):
    """The numbers of a telling of degree 0 by points."""
    found, begin = {}, 0
    for cell in table.space:
        if len(cell) == 1:
            found[cell] = whole[begin:begin + table.ranks[cell]]
            begin += table.ranks[cell]
    return found


class OneGroup(unittest.TestCase):
    def test_groups_whoever_tells_them(self):
        source, divisors = random.Random(4), 0
        for table in TABLES:
            rows = rows_of(table)
            shell = Shell()
            for line in lines_of(table):
                self.assertEqual(shell.run(line), "put")
            other = lesser(rows, all_pairings(rows))
            told = turned_table(table, source)
            try:
                finer = rows_of(finer_table(table))
            except OverflowError:
                finer = rows
            halves = half_groups(table, table.space, closed(table.space[:3]))
            for degree in degrees_of(table):
                found = group(rows, degree)
                makers = Makers(rows, degree)
                self.assertEqual((makers.rank, makers.divisors), found)
                self.assertEqual(group_answer(rows, degree)[0][3:], found)
                self.assertEqual([group(other, degree), group(finer, degree), group(rows_of(told), degree)],
                    [found] * 3)
                self.assertEqual(halves[degree][:2], (found, found))
                self.assertEqual(reading_group(rows, degree)[0], found[0])
                if degree:
                    self.assertEqual(reading_group(rows, degree - 1)[1], found[1])
                row = ",".join([str(number) for number in found[1]])
                self.assertEqual(shell.run(f"group {degree}"), f"{found[0]} {row}")
                divisors += len(found[1])
        self.assertGreater(divisors, 10)

    def test_coordinates(self):
        # Sums have the sums of the coordinates, alike ones exactly have the same ones, all come.
        source = random.Random(5)
        for table in TABLES:
            rows = rows_of(table)
            for degree in degrees_of(table):
                makers = Makers(rows, degree)
                moduli = [m for m, _ in makers.readings]
                some = stills(table, degree, source, 2)
                for one, other in itertools.product(some, repeat=2):
                    left, right = makers.coordinates(one), makers.coordinates(other)
                    total = makers.coordinates(tuple([a + b for a, b in zip(one, other)]))
                    told = tuple([(a + b) % m if m else a + b for a, b, m in zip(left, right, moduli)])
                    self.assertEqual(total, told)
                    self.assertEqual(left == right, alike_answer(rows, degree, one, other)[0][0] == "made")
                wanted = tuple([source.randrange(m) if m else source.randint(-9, 9) for m in moduli])
                self.assertEqual(makers.coordinates(makers.telling(wanted)), wanted)

    def test_finer_tellings(self):
        source = random.Random(6)
        for table in TABLES[:12]:
            try:
                finer = rows_of(finer_table(table))
            except OverflowError:
                continue
            for degree in degrees_of(table):
                for telling in stills(table, degree, source, 2):
                    self.assertEqual(
                        telling_answer(finer, degree, led_there(table, degree, telling))[0][0],
                        telling_answer(rows_of(table), degree, telling)[0][0])


def lines_of(table):
    """The lines of a shell that put the cells of a table."""
    words = []
    for line in table_text(table).split("\n")[:-1]:
        word, rest = line.split(" ", 1)
        if word == "cell":
            words.append(f"put {rest}")
        else:
            words[-1] += f" {rest}"
    return words


class WalksAndNear(unittest.TestCase):
    def test_walks_tell_all(self):
        # [0.19]: on a joined space told rounds and told points say the same.
        source, kinds = random.Random(7), []
        some = [TWIST, constant(ROUND, 2), constant(FILLED, 1), turned_table(constant(ROUND, 3), source)]
        for table in some + [table for table in TABLES if is_local(table) and len(pieces(table.space)) == 1]:
            point = table.space[0]
            for _ in range(4):
                row = some_row(table.ranks[point], source, 2)
                word, told = round_answer(table, point[0], row)
                claim, paper = extend_answer(table, {point: row})
                kinds.append(word)
                self.assertEqual(claim[0] == "made", word == "whole")
                if word == "whole":
                    self.assertEqual(told, paper)
        self.assertGreater(min(kinds.count("whole"), kinds.count("round")), 2)

    def test_near(self):
        # [0.20]: of k false points a whole is found exactly if no whole but 0 lives on 2 k points.
        for table in TABLES:
            if len([cell for cell in table.space if len(cell) == 1]) > 6:
                continue
            least = least_lot(table)
            for k in range(3):
                claim, paper = safe_answer(table, k)
                self.assertEqual(claim[0] == "safe", least is None or len(least) > 2 * k)
                if claim[0] == "confused":
                    one, other, telling = paper
                    for whole in (one, other):
                        self.assertTrue(is_still(table, 0, whole))
                        self.assertLessEqual(len(differing(table, whole, telling)), k)
                    self.assertIs(takes(("near",) + claim[1:3] + (telling, k), one), True)
                    self.assertIs(takes(("near",) + claim[1:3] + (telling, k), other), True)

    def test_nearest_wholes(self):
        source = random.Random(8)
        for table in TABLES:
            telling = some_row(sizes(table)[0], source)
            talk = Talk(table, 0, telling)
            claim, paper = nearest_still_answer(rise_grid(table, 0), talk.stands)
            self.assertEqual(claim[3], talk.nearest())
            self.assertIs(takes(claim, paper), True)
            # A whole that differs at no seat is the nearest one, with the distance 0.
            near = near_answer(table, telling, 0)[0][0]
            self.assertEqual(near == "near", distance(talk.stands, claim[3]) == (0, 1))

    def test_what_is_not_true(self):
        # [0.21]
        self.assertEqual(telling_answer(rows_of(TWIST), 1, (1, 0, 0))[0][0], "barred")
        self.assertTrue(is_still(TWIST, 1, (1, 0, 0)))
        # A reading modulo 0 that is quiet has 0 at what has a multiple that is made.
        modulus, row = telling_answer(rows_of(TWIST), 1, (1, 0, 0))[1]
        self.assertEqual((modulus, product_sum(row, (1, 0, 0)) % 2), (2, 1))
        self.assertEqual(group(rows_of(finer_table(TWIST)), 1), group(rows_of(TWIST), 1))


if __name__ == "__main__":
    unittest.main()
