"""Things of one part."""

from partdeeds.things import Thing
from tests.samples import of, part


def thing_of(*deeds, cells=(), asks=()):
    return Thing([part("A", deeds, asks, cells)], of("A"))
