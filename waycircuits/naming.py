"""The refusal of a name that isn't among NAMES ([9])."""

from waycircuits.errors import NoName


def look_for_names(names, told):
    """Refuse the first told name that isn't among the NAMES."""
    there = set(names)
    for name in told:
        if name not in there:
            raise NoName(name)
