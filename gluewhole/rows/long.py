"""Short exact rows of tables, and the long exact rows of their groups."""

from gluewhole.base.exact import plain_difference, plain_led, plain_product, plain_sum, plain_unit, row_less
from gluewhole.base.made import columns_made, is_bar, makes_all, plain_kernel, plain_made_answer, undone_behind
from gluewhole.base.numbers import check_between, check_fit, is_sized
from gluewhole.errors import InvalidOperation, Refused
from gluewhole.rows.maps import base_of_columns, check_table_map, is_one_to_one, map_at
from gluewhole.space.spaces import plain_degree
from gluewhole.tables.groups import plain_group
from gluewhole.tables.tables import are_just, ascending, check_table
from gluewhole.tables.tellings import check_telling, is_long_still, is_long_telling, plain_rise_grid, plain_size


def short_word(into, onto):
    """The word for why grids are no short exact row, None if they are one."""
    if not is_one_to_one(into):
        return "into"
    if base_of_columns(into) != plain_kernel(onto):
        return "middle"
    return None if makes_all(onto) else "onto"


def short_fault(first, middle, last, into, onto):
    """None if these are a short exact row, else a word and the first cell at which they are none."""
    for table in (first, middle, last):
        check_table(table)
    check_fit(first.space == middle.space == last.space, "the tables are on unlike spaces")
    check_table_map(first, middle, into)
    check_table_map(middle, last, onto)
    for cell in first.space:
        word = short_word(into[cell], onto[cell])
        if word is not None:
            return word, cell
    return None


class Short:
    """A short exact row of tables. It never changes."""

    def __init__(self, first, middle, last, into, onto):
        fault = short_fault(first, middle, last, into, onto)
        if fault is not None:
            raise Refused(fault)
        self._first = first
        self._middle = middle
        self._last = last
        self._into = ascending(into)
        self._onto = ascending(onto)

    @property
    def first(self):
        """The first table."""
        return self._first

    @property
    def middle(self):
        """The middle table."""
        return self._middle

    @property
    def last(self):
        """The last table."""
        return self._last

    @property
    def into(self):
        """The map from the first table to the middle one, a dict."""
        return {cell: self._into[cell] for cell in self._into}

    @property
    def onto(self):
        """The map from the middle table to the last one, a dict."""
        return {cell: self._onto[cell] for cell in self._onto}

    def __eq__(self, other):
        return (isinstance(other, Short) and self._first == other._first and self._middle == other._middle
                and self._last == other._last and self._into == other._into and self._onto == other._onto)

    def __str__(self):
        return f"short exact row on {len(self._first.space)} cells"


def check_short(value):
    """InvalidOperation unless the value is a short exact row."""
    check_fit(isinstance(value, Short), "this is no short exact row")


def check_short_degree(short, degree):
    """InvalidNumber unless the degree is one of the tables of a short exact row."""
    check_between(degree, 0, max(plain_degree(short.first.space), 0))


def check_still(table, degree, telling):
    """InvalidTelling unless the value is a telling of the degree; then InvalidOperation unless it is still."""
    check_telling(table, degree, telling)
    check_fit(is_long_still(table, degree, telling), "the telling is not still")


def split_at(into, onto):
    """A pair of grids that split a short exact row at a cell: whatever the second one is, some first one fits."""
    behind = undone_behind(onto)
    rest = plain_difference(plain_unit(onto[0]), plain_product(behind, onto))
    return columns_made(into, rest)[0], behind


def plain_splits(short):
    """As splits, without checks."""
    into, onto = short.into, short.onto
    return {cell: split_at(into[cell], onto[cell]) for cell in into}


def splits(short):
    """A dict from all cells to pairs of grids that split the row there."""
    check_short(short)
    return plain_splits(short)


def is_split_at(into, onto, value):
    """Whether the value is a pair of grids that split a short exact row at a cell."""
    if not isinstance(value, tuple) or len(value) != 2:
        return False
    ahead, behind = value
    if not is_sized(ahead, onto[0], into[0]) or not is_sized(behind, len(onto[1]), onto[0]):
        return False
    if plain_product(ahead, into) != plain_unit(into[0]) or plain_product(onto, behind) != plain_unit(len(onto[1])):
        return False
    return plain_sum(plain_product(into, ahead), plain_product(behind, onto)) == plain_unit(onto[0])


def is_splits(short, value):
    """Whether the value is a dict from all cells to pairs of grids that split the row there."""
    check_short(short)
    into, onto = short.into, short.onto
    if not are_just(short.first.space, value):
        return False
    return all([is_split_at(into[cell], onto[cell], value[cell]) for cell in into])


def check_last_telling(short, degree, telling):
    """The errors of functions of a short exact row and of a still telling of its last table."""
    check_short(short)
    check_short_degree(short, degree)
    check_still(short.last, degree, telling)


def rise_in(table, degree, telling):
    """The rise of a telling of any degree."""
    return plain_led(plain_rise_grid(table, degree), telling)


def led_into(short, degree, telling):
    """What into leads a telling to."""
    return plain_led(map_at(short.first, short.into, degree), telling)


def led_onto(short, degree, telling):
    """What onto leads a telling to."""
    return plain_led(map_at(short.middle, short.onto, degree), telling)


def led_first(short, degree, telling):
    """What the first grids that split a row lead a telling of the middle table to."""
    parts = plain_splits(short)
    return plain_led(map_at(short.middle, {cell: parts[cell][0] for cell in parts}, degree), telling)


def led_middle(short, degree, telling):
    """What the second grids that split a row lead a telling of the last table to."""
    parts = plain_splits(short)
    return plain_led(map_at(short.last, {cell: parts[cell][1] for cell in parts}, degree), telling)


def plain_raised(short, degree, telling):
    """As raised, without checks."""
    origin = led_middle(short, degree, telling)
    return led_first(short, degree + 1, rise_in(short.middle, degree, origin)), origin


def raised(short, degree, telling):
    """A telling of the first table that is raised from a still one of the last table, and by what it is."""
    check_last_telling(short, degree, telling)
    return plain_raised(short, degree, telling)


def is_raised_by(short, degree, telling, higher, origin):
    """Whether a telling of the first table is raised from a still one of the last table by one of the middle."""
    if not is_long_telling(short.first, degree + 1, higher) or not is_long_telling(short.middle, degree, origin):
        return False
    if led_onto(short, degree, origin) != telling:
        return False
    return led_into(short, degree + 1, higher) == rise_in(short.middle, degree, origin)


def is_raised(short, degree, telling, value):
    """Whether the value is a telling that is raised from this one, and by what it is."""
    check_last_telling(short, degree, telling)
    if not isinstance(value, tuple) or len(value) != 2:
        return False
    return is_raised_by(short, degree, telling, value[0], value[1])


def table_of(short, word):
    """The table that a word names: InvalidOperation for other words."""
    for name, table in (("first", short.first), ("middle", short.middle), ("last", short.last)):
        if word == name:
            return table
    raise InvalidOperation("the word names no table of a short exact row")


def check_word_telling(short, word, degree, telling):
    """The errors of functions of a still telling of the table that a word names."""
    check_short(short)
    table = table_of(short, word)
    check_short_degree(short, degree)
    check_still(table, degree, telling)


def origin_of_first(short, degree, telling):
    """The answer for a still telling of the first table: what it is raised from, or what bars what it is led to."""
    goal = led_into(short, degree, telling)
    claim, paper = plain_made_answer(plain_rise_grid(short.middle, degree - 1), goal)
    if claim[0] == "barred":
        return ("to",) + paper
    return "from", led_onto(short, degree - 1, paper), paper, (0,) * plain_size(short.first, degree - 1)


def origin_of_middle(short, degree, telling):
    """The answer for a still telling of the middle table: what is led to it, or what bars what it is led to."""
    goal = led_onto(short, degree, telling)
    claim, paper = plain_made_answer(plain_rise_grid(short.last, degree - 1), goal)
    if claim[0] == "barred":
        return ("to",) + paper
    further = led_middle(short, degree - 1, paper)
    rest = row_less(telling, rise_in(short.middle, degree - 1, further))
    return "from", led_first(short, degree, rest), further


def origin_of_last(short, degree, telling):
    """The answer for a still telling of the last table: what is led to it, or what bars what is raised from it."""
    higher, origin = plain_raised(short, degree, telling)
    claim, paper = plain_made_answer(plain_rise_grid(short.first, degree), higher)
    if claim[0] == "barred":
        return ("to", higher, origin) + paper
    rest = row_less(origin, led_into(short, degree, paper))
    return "from", rest, (0,) * plain_size(short.last, degree - 1)


def origin_of(short, word, degree, telling):
    """Where a still telling of the table that a word names comes from in the long row, or what bars this."""
    check_word_telling(short, word, degree, telling)
    if word == "first":
        return origin_of_first(short, degree, telling)
    if word == "middle":
        return origin_of_middle(short, degree, telling)
    return origin_of_last(short, degree, telling)


def is_origin_of_first(short, degree, telling, value):
    """Whether the value is an answer for a still telling of the first table."""
    if len(value) == 3 and value[0] == "to":
        return is_bar(plain_rise_grid(short.middle, degree - 1), led_into(short, degree, telling), value[1:])
    if len(value) != 4 or value[0] != "from":
        return False
    low, origin, further = value[1:]
    if not is_long_still(short.last, degree - 1, low) or not is_long_telling(short.first, degree - 1, further):
        return False
    rest = row_less(telling, rise_in(short.first, degree - 1, further))
    return is_raised_by(short, degree - 1, low, rest, origin)


def is_origin_of_middle(short, degree, telling, value):
    """Whether the value is an answer for a still telling of the middle table."""
    if len(value) != 3:
        return False
    if value[0] == "to":
        return is_bar(plain_rise_grid(short.last, degree - 1), led_onto(short, degree, telling), value[1:])
    low, further = value[1:]
    if value[0] != "from" or not is_long_still(short.first, degree, low):
        return False
    if not is_long_telling(short.middle, degree - 1, further):
        return False
    return row_less(telling, rise_in(short.middle, degree - 1, further)) == led_into(short, degree, low)


def is_origin_of_last(short, degree, telling, value):
    """Whether the value is an answer for a still telling of the last table."""
    if len(value) == 5 and value[0] == "to":
        bars = is_raised_by(short, degree, telling, value[1], value[2])
        return bars and is_bar(plain_rise_grid(short.first, degree), value[1], value[3:])
    if len(value) != 3 or value[0] != "from":
        return False
    low, further = value[1:]
    if not is_long_still(short.middle, degree, low) or not is_long_telling(short.last, degree - 1, further):
        return False
    return row_less(telling, rise_in(short.last, degree - 1, further)) == led_onto(short, degree, low)


def is_origin(short, word, degree, telling, value):
    """Whether the value is an answer for a still telling of the table that a word names."""
    check_word_telling(short, word, degree, telling)
    if not isinstance(value, tuple):
        return False
    if word == "first":
        return is_origin_of_first(short, degree, telling, value)
    if word == "middle":
        return is_origin_of_middle(short, degree, telling, value)
    return is_origin_of_last(short, degree, telling, value)


def long_ranks(short):
    """The ranks of the groups of the long row, up to the greatest degree of the space."""
    check_short(short)
    found = []
    for degree in range(max(plain_degree(short.first.space), 0) + 1):
        for table in (short.first, short.middle, short.last):
            found.append(plain_group(plain_rise_grid(table, degree - 1), plain_rise_grid(table, degree))[0])
    return tuple(found)
