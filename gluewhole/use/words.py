"""Texts of numbers, cells, rows and grids, and what has such a text: None for all other texts."""

from gluewhole.base.exact import plain_grid
from gluewhole.base.numbers import MAX_DIGITS, MAX_SIZE
from gluewhole.space.spaces import is_cell

DIGITS = "0123456789"


def cell_text(cell):
    """The text of a cell."""
    return ".".join([str(point) for point in cell])


def row_text(row):
    """The text of a row."""
    return ",".join([str(number) for number in row])


def plain_grid_text(grid):
    """The text of a grid."""
    return f"{len(grid[1])}x{grid[0]}:{row_text([number for row in grid[1] for number in row])}"


def number_of(text):
    """The integer of at most 12 digits that has the text."""
    digits = text[1:] if text[:1] == "-" else text
    if not 1 <= len(digits) <= MAX_DIGITS or not all([digit in DIGITS for digit in digits]):
        return None
    if digits[0] == "0" and text != "0":
        return None
    return int(text)


def numbers_of(text, between):
    """The tuple of the integers that have the text, with a sign between each two."""
    found = [number_of(part) for part in text.split(between)]
    return None if None in found else tuple(found)


def cell_of(text):
    """The cell that has the text."""
    found = numbers_of(text, ".")
    return found if is_cell(found) else None


def row_of(text):
    """The tuple of integers, however many, that has the text of a row."""
    return () if text == "" else numbers_of(text, ",")


def grid_of(text):
    """The grid that has the text."""
    parts = text.split(":")
    if len(parts) != 2:
        return None
    sizes, numbers = numbers_of(parts[0], "x"), row_of(parts[1])
    if sizes is None or numbers is None or len(sizes) != 2:
        return None
    height, width = sizes
    if not 0 <= height <= MAX_SIZE or not 0 <= width <= MAX_SIZE or len(numbers) != height * width:
        return None
    return plain_grid([numbers[at * width:(at + 1) * width] for at in range(height)], width)
