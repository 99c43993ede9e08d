"""Roads: how one ringless signing is led into another one by turning ties, each alone."""

from lowerboards.checks import are_within_bounds
from lowerboards.errors import NotRingless
from lowerboards.regions import with_tie_turned
from lowerboards.signings import is_ringless, sequence_along
from lowerboards.webs import signed_ties, web


def unlike_ties(order, signing, target):
    """The rising list of the positions of the ties that are signed unlike in both."""
    here, there = signed_ties(order, signing), signed_ties(order, target)
    return [tie for tie, (led, led_there) in enumerate(zip(here, there)) if led != led_there]


def gap(order, signing, target):
    """How many ties are signed unlike in both."""
    return len(unlike_ties(order, signing, target))


def sequences_along(order, signing, target):
    """For both signings all places, each tie leading to a later one; NotRingless if one has a ring."""
    here, there = sequence_along(order, signing), sequence_along(order, target)
    if here is None or there is None:
        raise NotRingless()
    return (here, there)


def road(order, signing, target):
    """A road from the one ringless signing to the other one, a list of positions of ties."""
    here, there = sequences_along(order, signing, target)
    ties = web(order)
    told = []
    # One place behind another is put where the target has it, past one place at a time: so the ties always
    # lead along a sequence of all places, and just those that lead otherwise in the target are turned.
    for at, place in enumerate(here):
        behind = there[there.index(place) + 1:]
        passed = [other for other in behind[::-1] if other in here[:at]]
        pairs = [(min(place, other), max(place, other)) for other in passed]
        told.extend([ties.index(pair) for pair in pairs if pair in ties])
    return told


def is_road(order, signing, target, value):
    """Whether any value is a road from the one ringless signing to the other one."""
    sequences_along(order, signing, target)
    if not are_within_bounds(value, 0, len(signing) - 1):
        return False
    # Fewer ties than these never do, and none of them can be spared.
    if sorted(value) != unlike_ties(order, signing, target):
        return False
    now = list(signing)
    for tie in value:
        now = with_tie_turned(now, tie)
        if not is_ringless(order, now):
            return False
    return True
