"""Cells of the degree 2 and the stretches at which they meet: what sheets, their sides and the checker look at."""


def meetings(cells):
    """The dict from the faces of cells of the degree 2 to the lists of pairs of a cell's index and of its sign there.

    The cells at a face stand by their indices.
    """
    found = {}
    for at, (first, middle, last) in enumerate(cells):
        found.setdefault((first, middle), []).append((at, 1))
        found.setdefault((first, last), []).append((at, -1))
        found.setdefault((middle, last), []).append((at, 1))
    return found


def meet_in_pairs(met):
    """Whether none of the faces that are told has more than two cells."""
    return all([len(lot) <= 2 for lot in met.values()])


def turned_pairs(met):
    """The triples of two neighbours and of their turn, by indices, if none of the faces has more than two cells."""
    return [(lot[0][0], lot[1][0], -lot[0][1] * lot[1][1]) for lot in met.values() if len(lot) == 2]
