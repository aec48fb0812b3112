"""How what is handed in is refused where it isn't as told."""

from wanehold.errors import Wrong


def refuse_wrong(fits):
    """Refuse with Wrong the first place whose thing doesn't fit."""
    for place, fit in enumerate(fits):
        if not fit:
            raise Wrong(place)
