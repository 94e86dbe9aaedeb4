"""Screens made with the colours and laid rows that are kept."""

from deedstand.textlines import rows_of
from deedstand.tiling import tiled


def kept_screen(view, sheet, tints, layout):
    """Return the screen of a sheet as a view shows it; refresh what is kept."""
    text = sheet.text()
    rows = rows_of(text)
    layout.refresh(rows)
    if tints is not None:
        tints.refresh(rows)
    folds = [(sheet.where(begin), sheet.where(end)) for begin, end in view.folded]
    return tiled(text, view.height, tints, layout, view.places(sheet), folds, view.top_place(sheet))
