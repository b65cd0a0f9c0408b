"""The interface: each name stands, with its arguments, in the module under which the document lists it."""

import importlib
import inspect
import pathlib
import unittest

FUNCTIONS = {
    "gluewhole.base.numbers": """
        is_integer(value), is_row(value), is_grid(value), dot(one, other), row_sum(one, other),
        row_difference(one, other), row_multiple(row, number), is_nought(value, modulus), shared(one, other),
        unit_grid(size), nought_grid(height, width), turned(grid), grid_multiple(grid, number), grid_sum(one, other),
        grid_difference(one, other), grid_product(one, other), beside(one, other), over(one, other), led(grid, row),
        read_by(row, grid)""",
    "gluewhole.base.diagonal": """
        divisors(grid), rank(grid), kernel_number(grid, m), undone_answer(grid), divisors_answer(grid),
        alike_answer(one, other)""",
    "gluewhole.base.made": """
        made_answer(grid, row), made_modulo_answer(grid, row, m), stairs(grid), lots_answer(one, other), kernel(grid),
        kernel_answer(grid), coordinates(base, row)""",
    "gluewhole.space.spaces": """
        is_cell(value), is_space(value), faces(cell), parts(cell), space_of(cells), degree_of(space), points(space),
        cells_of(space, degree), tops(space), count(space), border(space, degree), skeleton(space, degree),
        star(space, cell), closed_star(space, cell), link(space, cell), is_sub(space, value), is_open(space, value),
        joined(one, other), common(one, other), cone(space, point), hang_answer(space, one, other),
        is_path(space, one, other, value), is_side(space, one, other, value), pieces(space)""",
    "gluewhole.space.maps": """
        is_lead(value), is_map(space, other, value), map_fault(space, other, value), image(lead, cell),
        cell_sign(lead, cell), same(space), behind(first, second), image_of(space, lead), over(space, lead, sub),
        map_grid(space, other, lead, degree), step_grid(space, other, first, second, degree),
        are_near(space, other, first, value), folds(space), folded(space, point, onto), fold_row(space),
        is_fold_row(space, value), row_lead(space, row)""",
    "gluewhole.tables.tables": """
        table_fault(space, ranks, maps), constant(space, rank), on_star(space, cell, rank), on_parts(space, cell, rank),
        restricted(table, sub), inside(table, sub), outside(table, sub), table_sum(one, other),
        table_product(one, other), pulled(table, space, lead), framed(table, frames)""",
    "gluewhole.tables.tellings": """
        sizes(table), spots(table, degree), is_telling(table, degree, value), is_still(table, degree, value),
        rise_grid(table, degree), rise(table, degree, telling), part(table, degree, telling, cell),
        on_cells(table, degree, told), carrier(table, degree, telling), spread(table, degree, cell, row, goal)""",
    "gluewhole.tables.wholes": """
        whole_base(table), is_whole_base(table, value), says(table, whole, cell), board(table, points),
        wish(table, told), extend_answer(table, told), cover_fault(table, one, other),
        put_together(table, one, first, other, last)""",
    "gluewhole.tables.groups": """
        rows_of(table), is_still_row(rows, degree, value), rise_of(rows, degree, telling),
        telling_answer(rows, degree, telling), alike_answer(rows, degree, one, other), group(rows, degree),
        group_answer(rows, degree), are_makers(rows, degree, value)""",
    "gluewhole.tables.readings": """
        turned_rows(rows), fall(rows, degree, row), is_quiet(rows, degree, value), fallen_answer(rows, degree, row),
        reading_group(rows, degree), pairing(rows, degree), is_pairing(rows, degree, value),
        row_order(rows, degree, row), link(rows, degree, row, telling), linked_telling(rows, degree, row),
        quiet_classes(rows, degree, m)""",
    "gluewhole.rows.maps": """
        is_rows_map(one, other, value), is_table_map(one, other, value), rows_map(one, other, lead),
        led(one, other, lead, degree, telling), led_on(one, middle, other, first, last),
        led_group(one, other, lead, degree), one_to_one_answer(one, other, lead, degree),
        onto_answer(one, other, lead, degree), kernel_table(one, other, lead),
        is_kernel_table(one, other, lead, value), image_table(one, other, lead),
        is_image_table(one, other, lead, value)""",
    "gluewhole.rows.long": """
        short_fault(first, middle, last, into, onto), splits(short), is_splits(short, value),
        raised(short, degree, telling), is_raised(short, degree, telling, value),
        origin_of(short, word, degree, telling), is_origin(short, word, degree, telling, value), long_ranks(short)""",
    "gluewhole.rows.halves": """
        are_halves(space, value), common_part(table, one, other), part_on(table, sub, degree, telling),
        put_out(table, sub, degree, part), union(table, one, other, degree, x, y),
        glue_answer(table, one, other, degree, x, y), glued(table, one, other, degree, x, y),
        is_glued(table, one, other, degree, x, y, value), raised(table, one, other, degree, common),
        sides_grid(table, one, other, degree), sides_answer(table, one, other, degree, common),
        from_common(table, one, other, degree, telling), extend_answer(table, sub, degree, part),
        half_groups(table, one, other)""",
    "gluewhole.keep.pairings": """
        are_pairings(rows, value), lesser(rows, pairings), kept(rows, pairings), is_kept(rows, other, value),
        all_pairings(rows), are_all_pairings(rows, value), kept_on(rows, middle, other, first, last),
        kept_made(rows, other, triple, degree, telling, maker)""",
    "gluewhole.keep.finer": """
        finer_space(space), ladder(space, cell), last_lead(space), finer_table(table),
        led_there(table, degree, telling), led_back(table, degree, telling), telling_step(table, degree, telling)""",
    "gluewhole.turn.walks": """
        is_local(table), path_lead(table, path), told_path(space, point, other), rounds(space, point),
        round_answer(table, point, row), kept_base(table, point), is_kept_base(table, point, value), straight(table)""",
    "gluewhole.turn.sides": """
        is_sheet(space), is_surface(space), sides_answer(space), sides_table(space)""",
    "gluewhole.near.false": """
        seats(table), held_answer(table, lot), safe_answer(table, k), near_answer(table, telling, k), least_lot(table),
        differing(table, one, other)""",
    "gluewhole.near.nearest": """
        square(row), distance(one, other), nearest_made_answer(grid, row), nearest_still_answer(grid, row),
        parted_answer(one, other, row)""",
    "gluewhole.judge.judge": """
        is_claim(value), takes(claim, paper), opposite(claim)""",
    "gluewhole.book.book": """
        kept_word(word, degree, change)""",
    "gluewhole.use.texts": """
        grid_text(grid), table_text(table), read_grid(text), read_table(text)""",
}
CLASSES = {
    "gluewhole.tables.tables": {
        "Table": ("space, ranks, maps", ("space", "ranks", "maps"), {"led_by": "part, cell"})},
    "gluewhole.tables.groups": {
        "Rows": ("sizes, grids", ("sizes", "grids"), {"grid": "degree"}),
        "Makers": (
            "rows, degree", ("rank", "divisors", "makers", "readings"),
            {"coordinates": "telling", "telling": "coordinates"})},
    "gluewhole.rows.long": {
        "Short": ("first, middle, last, into, onto", ("first", "middle", "last", "into", "onto"), {})},
    "gluewhole.near.nearest": {
        "Talk": (
            "table, degree, telling", ("stands", "deeds"),
            {"nearest": "", "mend": "cell", "undo": "", "is_still": "", "broken": ""})},
    "gluewhole.book.book": {
        "Book": (
            "", ("table", "names", "changes"),
            {"put": "cell, rank, maps", "take": "cell", "ask": "name, degree, telling", "drop": "name",
             "undo": "calls", "question": "name", "answer": "name", "twin": ""})},
    "gluewhole.use.shell": {
        "Shell": ("", (), {"book": "", "run": "line"})},
}
OPERATORS = {
    "Table": ("__eq__", "__str__"), "Rows": ("__eq__", "__len__", "__str__"), "Makers": ("__eq__", "__len__"),
    "Short": ("__eq__", "__str__"), "Talk": ("__eq__", "__len__", "__str__"),
    "Book": ("__contains__", "__eq__", "__len__", "__str__"), "Shell": ()}
CONSTANTS = {
    "gluewhole.base.numbers": {"MAX_DIGITS": 12, "MAX_SIZE": 60},
    "gluewhole.space.spaces": {"MOST_POINT": 99, "MOST_LENGTH": 4, "MOST_CELLS": 80},
    "gluewhole.tables.tables": {"MAX_RANK": 4, "MAX_SIZE": 30},
    "gluewhole.near.false": {"MOST_LOTS": 2000},
    "gluewhole.near.nearest": {"MOST_DEEDS": 40},
    "gluewhole.book.book": {"MAX_NAMES": 20, "MAX_CALLS": 200},
}


class Interface(unittest.TestCase):
    def test_functions(self):
        for path, told in FUNCTIONS.items():
            module = importlib.import_module(path)
            for heading in " ".join(told.split()).split("), "):
                name, arguments = heading.rstrip(")").split("(")
                function = getattr(module, name)
                self.assertTrue(inspect.isfunction(function), name)
                self.assertEqual(function.__module__, path)
                self.assertEqual(", ".join(inspect.signature(function).parameters), arguments, name)

    def test_classes(self):
        for path, told in CLASSES.items():
            for name, (arguments, properties, methods) in told.items():
                made = getattr(importlib.import_module(path), name)
                self.assertTrue(inspect.isclass(made))
                self.assertEqual(made.__module__, path)
                self.assertEqual(", ".join(inspect.signature(made).parameters), arguments)
                for kept in properties:
                    self.assertIsInstance(vars(made)[kept], property)
                for method, taken in methods.items():
                    told_taken = list(inspect.signature(vars(made)[method]).parameters)
                    self.assertEqual(told_taken, ["self"] + [one for one in taken.split(", ") if one])
                for method in OPERATORS[name]:
                    self.assertIn(method, vars(made))

    def test_keywords(self):
        book = importlib.import_module("gluewhole.book.book").Book
        told = inspect.signature(book.undo).parameters["calls"]
        self.assertEqual((told.kind, told.default), (inspect.Parameter.KEYWORD_ONLY, 1))

    def test_constants(self):
        for path, told in CONSTANTS.items():
            module = importlib.import_module(path)
            for name, number in told.items():
                self.assertEqual(getattr(module, name), number)

    def test_files(self):
        package = pathlib.Path(importlib.import_module("gluewhole").__file__).parent
        for path in list(FUNCTIONS) + list(CLASSES) + ["gluewhole.errors"]:
            self.assertTrue(package.parent.joinpath(*path.split(".")).with_suffix(".py").is_file())


if __name__ == "__main__":
    unittest.main()
