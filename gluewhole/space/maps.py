"""Maps of spaces: leads of points that lead cells to cells."""

from gluewhole.base.exact import plain_grid
from gluewhole.base.numbers import check_between, check_fit, check_most
from gluewhole.errors import InvalidMap
from gluewhole.space.spaces import MOST_CELLS, MOST_LENGTH, check_cell, check_point_of, check_space, check_spaces
from gluewhole.space.spaces import is_point, ordered, plain_cells, plain_star


def is_lead(value):
    """Whether the value is a dict from at most 80 points to points."""
    if not isinstance(value, dict) or len(value) > MOST_CELLS:
        return False
    return all([is_point(point) and is_point(onto) for point, onto in value.items()])


def check_lead(value):
    """InvalidMap unless the value is a lead."""
    if not is_lead(value):
        raise InvalidMap("a lead is a dict from at most 80 points to points")


def ascending_lead(lead):
    """The lead with its points ascending."""
    return {point: lead[point] for point in sorted(lead)}


def plain_image(lead, cell):
    """The ascending tuple of the unlike points to which the points of a cell are led."""
    return tuple(sorted(set([lead[point] for point in cell])))


def sign_of(row):
    """The sign of a row of points: 0 if two are equal, else as pairs with the greater one ahead are even or odd."""
    if len(set(row)) < len(row):
        return 0
    wrong = [1 for later in range(len(row)) for former in range(later) if row[former] > row[later]]
    return -1 if len(wrong) % 2 == 1 else 1


def plain_cell_sign(lead, cell):
    """The sign of the row of where the points of a cell are led."""
    return sign_of([lead[point] for point in cell])


def plain_points(space):
    """The points of a space, ascending, as a list."""
    return [cell[0] for cell in plain_cells(space, 0)]


def plain_fault(space, other, value):
    """As map_fault, for two spaces."""
    if not is_lead(value):
        return ("form",)
    inside = plain_points(space)
    unlike = [point for point in inside if point not in value] + [point for point in value if point not in inside]
    if unlike:
        return "point", min(unlike)
    for cell in space:
        if plain_image(value, cell) not in other:
            return "cell", cell
    return None


def is_map(space, other, value):
    """Whether the value is a map from a space to another one."""
    check_spaces(space, other)
    return plain_fault(space, other, value) is None


def map_fault(space, other, value):
    """The first fault of a value that is no map from a space to another one, or None."""
    check_spaces(space, other)
    return plain_fault(space, other, value)


def check_led_cell(lead, cell):
    """The errors of functions of a lead and a cell whose points it has."""
    check_lead(lead)
    check_cell(cell)
    check_fit(all([point in lead for point in cell]), "the lead lacks a point of the cell")


def image(lead, cell):
    """The ascending tuple of the unlike points to which the points of the cell are led."""
    check_led_cell(lead, cell)
    return plain_image(lead, cell)


def cell_sign(lead, cell):
    """The sign of a cell under a lead."""
    check_led_cell(lead, cell)
    return plain_cell_sign(lead, cell)


def plain_same(space):
    """The map that leads all points to themselves."""
    return {point: point for point in plain_points(space)}


def same(space):
    """The map that leads all points to themselves."""
    check_space(space)
    return plain_same(space)


def behind(first, second):
    """The lead that leads each point of the first one to where the second one leads its image."""
    check_lead(first)
    check_lead(second)
    check_fit(all([onto in second for onto in first.values()]), "the second lead lacks a point")
    return {point: second[onto] for point, onto in ascending_lead(first).items()}


def check_points(space, lead):
    """InvalidOperation unless the points of the lead are just those of the space."""
    check_fit(sorted(lead) == plain_points(space), "the lead has not just the points of the space")


def image_of(space, lead):
    """All images of the cells of a space."""
    check_space(space)
    check_lead(lead)
    check_points(space, lead)
    return ordered([plain_image(lead, cell) for cell in space])


def over(space, lead, sub):
    """The cells of a space whose images lie in another space."""
    check_space(space)
    check_lead(lead)
    check_space(sub)
    check_points(space, lead)
    return tuple([cell for cell in space if plain_image(lead, cell) in sub])


def signs_grid(rows, signs):
    """The grid with a row for each of some cells and a column for each dict of signs by cells."""
    check_most(len(rows))
    check_most(len(signs))
    return plain_grid([[column.get(cell, 0) for column in signs] for cell in rows], len(signs))


def map_grid(space, other, lead, degree):
    """The grid of a map in a degree."""
    check_spaces(space, other)
    check_lead(lead)
    check_between(degree, 0, MOST_LENGTH - 1)
    check_fit(plain_fault(space, other, lead) is None, "the lead is no map")
    cells = plain_cells(space, degree)
    signs = [{plain_image(lead, cell): plain_cell_sign(lead, cell)} for cell in cells]
    return signs_grid(plain_cells(other, degree), signs)


def plain_are_near(space, other, first, second):
    """Whether for each cell its images under two maps together make a cell of the other space."""
    both = [plain_image(first, cell) + plain_image(second, cell) for cell in space]
    return all([tuple(sorted(set(together))) in other for together in both])


def steps_of(first, second, cell):
    """A dict with the numbers that the steps between two near maps have at a cell."""
    found = {}
    for at in range(len(cell)):
        row = [first[point] for point in cell[:at + 1]] + [second[point] for point in cell[at:]]
        target = tuple(sorted(row))
        found[target] = found.get(target, 0) + (-sign_of(row) if at % 2 == 1 else sign_of(row))
    return found


def step_grid(space, other, first, second, degree):
    """The steps that join two near maps, in a degree."""
    check_spaces(space, other)
    check_lead(first)
    check_lead(second)
    check_between(degree, 0, MOST_LENGTH - 1)
    for lead in (first, second):
        check_fit(plain_fault(space, other, lead) is None, "a lead is no map")
    check_fit(plain_are_near(space, other, first, second), "the maps are not near")
    signs = [steps_of(first, second, cell) for cell in plain_cells(space, degree)]
    return signs_grid(plain_cells(other, degree + 1), signs)


def are_near(space, other, first, value):
    """Whether the value is a map that is near to the first one."""
    check_spaces(space, other)
    check_lead(first)
    check_fit(plain_fault(space, other, first) is None, "the first lead is no map")
    return plain_fault(space, other, value) is None and plain_are_near(space, other, first, value)


def with_point(cell, point):
    """The ascending tuple of the points of a cell and of a further point, which it may have."""
    return cell if point in cell else tuple(sorted(cell + (point,)))


def can_fold(space, point, onto):
    """Whether a point can be folded onto another one."""
    around = [with_point(cell, onto) for cell in plain_star(space, (point,))]
    return point != onto and all([cell in space for cell in around])


def plain_folds(space):
    """The ascending tuple of all folds: each one leads along a cell of the degree 1."""
    ways = [way for one, other in plain_cells(space, 1) for way in ((one, other), (other, one))]
    return tuple(sorted([way for way in ways if can_fold(space, way[0], way[1])]))


def plain_folded(space, point):
    """The cells without a point."""
    return tuple([cell for cell in space if point not in cell])


def folds(space):
    """The ascending tuple of all folds (p, q)."""
    check_space(space)
    return plain_folds(space)


def folded(space, point, onto):
    """The cells without a point that can be folded onto another one."""
    check_space(space)
    check_point_of(space, point)
    check_point_of(space, onto)
    check_fit(can_fold(space, point, onto), "the point can't be folded so")
    return plain_folded(space, point)


def fold_row(space):
    """Some row of folds behind which none is left."""
    check_space(space)
    found, left = [], space
    ways = plain_folds(left)
    while ways:
        found.append(ways[0])
        left = plain_folded(left, ways[0][0])
        ways = plain_folds(left)
    return tuple(found)


def is_pair_of_points(value):
    """Whether the value is a pair of points."""
    return isinstance(value, tuple) and len(value) == 2 and all([is_point(point) for point in value])


def plain_is_fold_row(space, value):
    """Whether the value is a row of folds of a space."""
    if not isinstance(value, tuple) or not all([is_pair_of_points(way) for way in value]):
        return False
    left = space
    for way in value:
        if way not in plain_folds(left):
            return False
        left = plain_folded(left, way[0])
    return plain_folds(left) == ()


def is_fold_row(space, value):
    """Whether the value is a row of folds behind which none is left."""
    check_space(space)
    return plain_is_fold_row(space, value)


def row_lead(space, row):
    """The map that leads each point through all folds of a row."""
    check_space(space)
    check_fit(plain_is_fold_row(space, row), "this is no row of folds")
    lead = plain_same(space)
    for point, onto in row:
        lead = {start: onto if end == point else end for start, end in lead.items()}
    return lead
