"""Vehicles that go around a ring of turns: how many there are, which begins where, and what each does."""

from beatplans.errors import NoRing
from beatplans.late import step_of
from beatplans.plans import length_of
from beatplans.rings import ends_of, rounds_in


def vehicles(plan, period, beats, ring):
    """How many vehicles go around this ring, or NoRing."""
    if any([way == -1 for s, way in ring]):
        raise NoRing("back")
    many = rounds_in(plan, period, beats, ring)
    if many == 0:
        raise NoRing("none")
    return many


def vehicle_at(plan, period, beats, ring, place, turn):
    """The number of the vehicle that begins at this place in this turn, or NoRing."""
    many = vehicles(plan, period, beats, ring)
    ahead = sum([step_of(plan, period, beats, s) for s, way in ring[:place]])
    return (turn - ahead) % many


def vehicle_row(plan, period, beats, ring, vehicle, many):
    """The list of the first so many pairs (beat, place) of this vehicle, or NoRing."""
    # Asked for its refusals alone: the row is the same however many others go around.
    vehicles(plan, period, beats, ring)
    start, end = ends_of(plan, ring[0])
    beat = beats[start] + vehicle * period
    row = []
    for at in range(many):
        place = at % len(ring)
        row.append((beat, place))
        beat += length_of(plan, period, beats, ring[place][0])
    return row
