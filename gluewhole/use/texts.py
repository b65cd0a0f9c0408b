"""Texts of grids and tables, and what has a text."""

from gluewhole.base.exact import plain_product
from gluewhole.base.numbers import MAX_DIGITS, check_grid, is_between, is_grid
from gluewhole.errors import ParseError, TooMany
from gluewhole.space.spaces import MOST_CELLS, ascending_faces, is_within, plain_faces
from gluewhole.tables.tables import MAX_RANK, MAX_SIZE, Table, check_table
from gluewhole.use.words import cell_of, cell_text, grid_of, number_of, plain_grid_text


def grid_text(grid):
    """The text of a grid."""
    check_grid(grid)
    return plain_grid_text(grid)


def table_text(table):
    """The text of a table: a line for each cell, and behind it one for each of its faces."""
    check_table(table)
    ranks, maps, text = table.ranks, table.maps, ""
    # A table that a function made can have longer integers; a grid with such ones cannot be passed by itself.
    if not all([is_grid(grid) for grid in maps.values()]):
        raise TooMany(MAX_DIGITS)
    for cell in table.space:
        text += f"cell {cell_text(cell)} {ranks[cell]}\n"
        for face in ascending_faces(cell):
            text += f"map {cell_text(face)} {plain_grid_text(maps[(face, cell)])}\n"
    return text


def read_grid(text):
    """The grid that has the text."""
    if not isinstance(text, str):
        raise ParseError(None)
    grid = grid_of(text)
    if grid is None:
        raise ParseError(0)
    return grid


def is_next_cell(ranks, cell):
    """Whether a cell can come next in a space whose cells have told ranks."""
    if len(ranks) >= MOST_CELLS or not all([face in ranks for _, face in plain_faces(cell)]):
        return False
    return all([(len(other), other) < (len(cell), cell) for other in ranks])


def next_cell(ranks, line):
    """The next cell that a line tells, with its rank, or None."""
    words = line.split(" ")
    if len(words) != 3 or words[0] != "cell":
        return None
    cell, rank = cell_of(words[1]), number_of(words[2])
    if cell is None or not is_between(rank, 0, MAX_RANK) or not is_next_cell(ranks, cell):
        return None
    size = sum([ranks[other] for other in ranks if len(other) == len(cell)])
    return (cell, rank) if size + rank <= MAX_SIZE else None


def agree(maps, face, cell, grid):
    """Whether a grid from a face to a cell makes no two ways unlike, beside those maps that are told."""
    for _, some in plain_faces(face):
        for _, other in plain_faces(cell):
            if other != face and is_within(some, other) and (other, cell) in maps:
                way = plain_product(maps[(other, cell)], maps[(some, other)])
                if plain_product(grid, maps[(some, face)]) != way:
                    return False
    return True


def next_map(ranks, maps, face, cell, line):
    """The grid from a face to a cell that a line tells, or None."""
    words = line.split(" ")
    if len(words) != 3 or words[0] != "map" or words[1] != cell_text(face):
        return None
    grid = grid_of(words[2])
    if grid is None or grid[0] != ranks[face] or len(grid[1]) != ranks[cell]:
        return None
    return grid if agree(maps, face, cell, grid) else None


def read_table(text):
    """The table that has the text."""
    if not isinstance(text, str):
        raise ParseError(None)
    lines, ranks, maps, cell, left = text.split("\n"), {}, {}, None, []
    for index, line in enumerate(lines[:-1]):
        if left:
            grid = next_map(ranks, maps, left[0], cell, line)
            if grid is None:
                raise ParseError(index)
            maps[(left[0], cell)] = grid
            left = left[1:]
        else:
            told = next_cell(ranks, line)
            if told is None:
                raise ParseError(index)
            cell, left = told[0], ascending_faces(told[0])
            ranks[cell] = told[1]
    if left or lines[-1] != "":
        raise ParseError(len(lines) - 1)
    return Table(tuple(list(ranks)), ranks, maps)
