"""[34], [5] Rings of turns: how many vehicles go around, which begins where, and the row of each."""

import unittest

from beatplans.errors import NoRing, PlanError
from beatplans.turns import vehicle_at, vehicle_row, vehicles
from tests.helpers import FORTY, NAMES, kept_plan, refused, seeded, slow_length, slow_step, some_beats, some_plan

# Out and back: 22 and 23 beats of a round of 15 make three vehicles.
LINE = (("out", "back"), (("span", 0, 1, 20, 25), ("span", 1, 0, 20, 25)))
AROUND = ((0, 1), (1, 1))


def some_turns(rng, plan, most):
    """A ring of turns of up to so many entries, None where the walk doesn't come back."""
    spans = [(s, span[1], span[2]) for s, span in enumerate(plan[1])]
    if not spans:
        return None
    walk = [rng.choice(spans)]
    want = rng.randint(1, most)
    while len(walk) < most and (walk[-1][2] != walk[0][1] or len(walk) < want):
        on = [step for step in spans if step[1] == walk[-1][2]]
        if not on:
            return None
        walk.append(rng.choice(on))
    if walk[-1][2] != walk[0][1]:
        return None
    return tuple([(s, 1) for s, one, other in walk])


def some_asked(rng):
    """Any plan, round, beats and a ring of turns."""
    while True:
        period = rng.choice((1, 2, 5, 15, 60, 600))
        plan = some_plan(rng, rng.randint(1, 8), rng.randint(1, 24), min(9999, rng.choice((0, 1, period, 3 * period, 9999))))
        beats = some_beats(rng, plan, period) if rng.random() < 0.8 else (rng.randrange(period),) * len(plan[0])
        if rng.random() < 0.5:
            plan = kept_plan(rng, plan, period, beats, period)
        ring = some_turns(rng, plan, rng.choice((1, 4, 12, 60)))
        if ring:
            return (plan, period, beats, ring)


def begun_at(plan, beats, ring, place):
    """The beat of the work that begins at a place."""
    return beats[plan[1][ring[place][0]][1]]


class Turns(unittest.TestCase):

    def not_turned(self, word, plan, period, beats, ring):
        shown = repr((plan, beats, ring))
        for refusal in (
            refused(vehicles, plan, period, beats, ring), refused(vehicle_at, plan, period, beats, ring, 0, 5),
            refused(vehicle_row, plan, period, beats, ring, 0, 5), refused(vehicle_row, plan, period, beats, ring, 0, 0),
        ):
            self.assertIs(type(refusal), NoRing)
            self.assertIsInstance(refusal, PlanError)
            self.assertEqual(refusal.word, word)
        self.assertEqual(repr((plan, beats, ring)), shown)

    def looked_at(self, plan, period, beats, ring):
        """How many vehicles go around, None where none do; all that is told of them is right."""
        total = sum(slow_length(plan[1][s], period, beats) for s, way in ring)
        if total == 0:
            self.not_turned("none", plan, period, beats, ring)
            return None
        shown = repr((plan, beats, ring))
        many = vehicles(plan, period, beats, ring)
        self.assertIs(type(many), int)
        self.assertEqual(many * period, total)
        ahead = 0
        for place in range(len(ring)):
            for turn in (0, 1, many - 1, many, 2 * many + 1, FORTY):
                told = vehicle_at(plan, period, beats, ring, place, turn)
                self.assertIs(type(told), int)
                self.assertEqual(told, (turn - ahead) % many)
            ahead += slow_step(plan[1][ring[place][0]], period, beats)
        self.assertEqual(ahead, many)
        for vehicle in {0, many // 2, many - 1}:
            self.row_is_right(plan, period, beats, ring, vehicle)
        self.assertEqual(repr((plan, beats, ring)), shown)
        return many

    def row_is_right(self, plan, period, beats, ring, vehicle):
        row = vehicle_row(plan, period, beats, ring, vehicle, 200)
        self.assertIs(type(row), list)
        self.assertEqual(len(row), 200)
        self.assertEqual(row[0], (begun_at(plan, beats, ring, 0) + vehicle * period, 0))
        for at, (beat, place) in enumerate(row):
            self.assertEqual((type(row[at]), type(beat), type(place)), (tuple, int, int))
            self.assertEqual(place, at % len(ring))
            turn, left = divmod(beat - begun_at(plan, beats, ring, place), period)
            self.assertEqual(left, 0)
            self.assertEqual(vehicle_at(plan, period, beats, ring, place, turn), vehicle)
            if at:
                length = slow_length(plan[1][ring[at % len(ring) - 1][0]], period, beats)
                self.assertEqual(beat - row[at - 1][0], length)
        for many in (0, 1, 7, 199):
            self.assertEqual(vehicle_row(plan, period, beats, ring, vehicle, many), row[:many])

    def each_turn_is_begun_once(self, plan, period, beats, ring):
        """Over some turns: each turn of each place is begun by just one vehicle, the told one."""
        many = vehicles(plan, period, beats, ring)
        begun = {}
        for vehicle in range(many):
            for beat, place in vehicle_row(plan, period, beats, ring, vehicle, 4 * len(ring)):
                turn = (beat - begun_at(plan, beats, ring, place)) // period
                self.assertNotIn((place, turn), begun)
                begun[place, turn] = vehicle
        for (place, turn), vehicle in begun.items():
            self.assertEqual(vehicle_at(plan, period, beats, ring, place, turn), vehicle)
        # From the turn on in which the first vehicle comes to a place, each turn of it is begun.
        for place in range(len(ring)):
            turns = sorted(turn for at, turn in begun if at == place)
            self.assertEqual(turns, list(range(turns[0], turns[0] + 4 * many)))

    def test_told_by_hand(self):
        beats = (0, 7)
        self.assertEqual(self.looked_at(LINE, 15, beats, AROUND), 3)
        self.assertEqual(vehicle_row(LINE, 15, beats, AROUND, 0, 5), [(0, 0), (22, 1), (45, 0), (67, 1), (90, 0)])
        self.assertEqual(vehicle_row(LINE, 15, beats, AROUND, 2, 3), [(30, 0), (52, 1), (75, 0)])
        self.assertEqual([vehicle_at(LINE, 15, beats, AROUND, 0, turn) for turn in range(6)], [0, 1, 2, 0, 1, 2])
        self.assertEqual([vehicle_at(LINE, 15, beats, AROUND, 1, turn) for turn in range(6)], [2, 0, 1, 2, 0, 1])
        self.assertEqual(vehicle_row(LINE, 15, beats, AROUND[::-1], 1, 3), [(22, 0), (45, 1), (67, 0)])
        self.assertEqual(vehicle_at(LINE, 15, beats, AROUND, 0, FORTY), FORTY % 3)

    def test_begun_elsewhere_and_gone_twice(self):
        for ring in (AROUND, AROUND[::-1], AROUND * 2, AROUND * 30, AROUND[::-1] * 7):
            for period, beats in ((15, (0, 7)), (15, (9, 1)), (45, (0, 22)), (45, (44, 20)), (1, (0, 0)), (600, (3, 4))):
                once = self.looked_at(LINE, period, beats, AROUND)
                self.assertEqual(self.looked_at(LINE, period, beats, ring), once * len(ring) // 2)
                self.each_turn_is_begun_once(LINE, period, beats, ring)

    def test_works_named_twice(self):
        # An eight: both loops go through the first work.
        eight = (NAMES[:3], (("span", 0, 1, 4, 9), ("span", 1, 0, 4, 9), ("span", 0, 2, 5, 9), ("span", 2, 0, 5, 9)))
        for beats in ((0, 4, 5), (3, 8, 9), (9, 3, 4), (0, 0, 0)):
            for ring in (((0, 1), (1, 1), (2, 1), (3, 1)), ((1, 1), (2, 1), (3, 1), (0, 1)), ((2, 1), (3, 1), (0, 1), (1, 1), (0, 1), (1, 1))):
                self.assertGreater(self.looked_at(eight, 10, beats, ring), 0)
                self.each_turn_is_begun_once(eight, 10, beats, ring)

    def test_a_work_with_itself(self):
        plan = (("a",), (("span", 0, 0, 0, 99), ("span", 0, 0, 1, 99), ("span", 0, 0, 21, 99)))
        self.assertIsNone(self.looked_at(plan, 20, (7,), ((0, 1),)))
        self.assertIsNone(self.looked_at(plan, 20, (7,), ((0, 1),) * 60))
        self.assertEqual(self.looked_at(plan, 20, (7,), ((1, 1),)), 1)
        self.assertEqual(self.looked_at(plan, 20, (7,), ((2, 1),)), 2)
        self.assertEqual(self.looked_at(plan, 20, (7,), ((0, 1), (2, 1), (0, 1), (1, 1))), 3)
        self.each_turn_is_begun_once(plan, 20, (7,), ((0, 1), (2, 1), (0, 1), (1, 1)))

    def test_back_ahead_of_none(self):
        nowhere = (("a", "b"), (("span", 0, 1, 0, 9), ("span", 1, 0, 0, 9)))
        self.not_turned("none", nowhere, 20, (5, 5), AROUND)
        self.not_turned("none", nowhere, 1, (0, 0), AROUND)
        self.not_turned("back", nowhere, 20, (5, 5), ((0, 1), (0, -1)))
        self.not_turned("back", nowhere, 20, (5, 6), ((0, 1), (0, -1)))
        self.not_turned("back", nowhere, 20, (5, 6), ((1, -1), (0, -1)))
        self.not_turned("back", LINE, 15, (0, 7), ((0, 1), (0, -1)))
        self.not_turned("back", LINE, 15, (0, 7), ((1, -1), (1, 1)))
        self.not_turned("back", LINE, 15, (0, 7), ((0, 1), (0, -1), (0, 1), (1, 1)))
        self.not_turned("back", LINE, 15, (0, 7), AROUND * 29 + ((1, -1), (1, 1)))

    def test_any_rings(self):
        rng = seeded("rings of turns")
        seen = {"none": 0, "one": 0, "more": 0, "long": 0, "twice": 0}
        for _ in range(400):
            plan, period, beats, ring = some_asked(rng)
            many = self.looked_at(plan, period, beats, ring)
            seen["none" if many is None else "one" if many == 1 else "more"] += 1
            works = [plan[1][s][1] for s, way in ring]
            seen["twice"] += len(set(works)) < len(works)
            seen["long"] += len(ring) > 12
            if many and many * len(ring) < 500:
                self.each_turn_is_begun_once(plan, period, beats, ring)
            if len(ring) <= 58:
                self.not_turned("back", plan, period, beats, ring + (ring[0], (ring[0][0], -1)))
        self.assertGreater(min(seen.values()), 15)

    def test_the_list_is_the_askers_own(self):
        first = vehicle_row(LINE, 15, (0, 7), AROUND, 0, 3)
        first.clear()
        self.assertEqual(vehicle_row(LINE, 15, (0, 7), AROUND, 0, 3), [(0, 0), (22, 1), (45, 0)])
        self.assertEqual(vehicle_row(LINE, 15, (0, 7), AROUND, 0, 0), [])


if __name__ == "__main__":
    unittest.main()
