"""The checker: which values are well made claims, and which ones are papers for them."""

from gluewhole.errors import InvalidClaim
from gluewhole.judge.grids import GRID_PAPERS, is_grid_claim, takes_grid_paper
from gluewhole.judge.groups import GROUP_PAPERS, is_led_claim, takes_led_paper
from gluewhole.judge.points import POINT_PAPERS, is_point_claim, takes_point_paper

OPPOSITES = {
    "undone": "not undone", "not undone": "undone", "alike": "unlike", "unlike": "alike", "made": "barred",
    "barred": "made", "made modulo": "barred modulo", "barred modulo": "made modulo", "same lot": "unlike lots",
    "unlike lots": "same lot", "one to one": "lost", "lost": "one to one", "onto": "missed", "missed": "onto",
    "two sides": "one side", "one side": "two sides", "held": "loose", "loose": "held", "safe": "confused",
    "confused": "safe", "near": "far", "far": "near",
}


def is_claim(value):
    """Whether the value is a well made claim."""
    if not isinstance(value, tuple) or value == () or not isinstance(value[0], str):
        return False
    kind, members = value[0], value[1:]
    if kind in GRID_PAPERS:
        return is_grid_claim(kind, members)
    if kind in GROUP_PAPERS:
        return is_led_claim(kind, members)
    return kind in POINT_PAPERS and is_point_claim(kind, members)


def takes(claim, paper):
    """Whether the second value is a paper for the first one, a well made claim."""
    if not isinstance(claim, tuple) or claim == () or not isinstance(claim[0], str):
        return False
    kind, members = claim[0], claim[1:]
    if kind in GRID_PAPERS:
        return takes_grid_paper(kind, members, paper)
    if kind in GROUP_PAPERS:
        return takes_led_paper(kind, members, paper)
    return kind in POINT_PAPERS and takes_point_paper(kind, members, paper)


def opposite(claim):
    """The claim of the other kind with the same members, None if there is none that is well made."""
    if not is_claim(claim):
        raise InvalidClaim("this is no well made claim")
    if claim[0] not in OPPOSITES:
        return None
    other = (OPPOSITES[claim[0]],) + claim[1:]
    return other if is_claim(other) else None
