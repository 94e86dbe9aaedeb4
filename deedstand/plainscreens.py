"""Screens made from nothing but the text and what is told of it."""

from deedstand.layouts import Layout
from deedstand.textlines import rows_of
from deedstand.tiling import tiled
from deedstand.tintkeeping import Tints


def screen_of(text, width, height, *, wordwise=False, book=None, picks=(), folds=(), top=0):
    """Return the screen of a text."""
    rows = rows_of(text)
    layout = Layout(width, wordwise=wordwise)
    layout.refresh(rows)
    tints = None
    if book is not None:
        tints = Tints(book)
        tints.refresh(rows)
    return tiled(text, height, tints, layout, picks, folds, top)
