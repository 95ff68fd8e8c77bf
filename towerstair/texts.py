"""Stairs written as texts, and read from them."""

from towerstair.checks import check_stairs, is_stairs
from towerstair.errors import BadStairs, BadText

MOST_FIGURES = 60
TOO_HIGH = 10 ** 60
NO_COLUMNS = "-"


def written(stairs):
    """Tell the text of stairs."""
    check_stairs(stairs)
    if not stairs:
        return NO_COLUMNS
    # The last column is the highest.
    if stairs[-1] >= TOO_HIGH:
        raise BadStairs("no height of more than sixty figures is written")
    return " ".join([str(height) for height in stairs])


def read(text):
    """Tell the stairs of a text."""
    if not isinstance(text, str):
        raise BadText("a text is a string")
    if text == NO_COLUMNS:
        return []
    words = text.split(" ")
    if not all([_is_height(word) for word in words]):
        raise BadText("heights are figures with one blank between")
    stairs = [int(word) for word in words]
    if not is_stairs(stairs):
        raise BadText("no height is less than the one ahead")
    return stairs


def _is_height(word):
    """Tell whether this is a height as it is written."""
    if not word.isascii() or not word.isdigit() or len(word) > MOST_FIGURES:
        return False
    return word == "0" or not word.startswith("0")
