"""Plans, rounds, beats and weights: what is one, and how long spans are by beats."""

MOST_SIGNS = 8
MOST_NAMES = 8
MOST_SPANS = 24
MOST_BEATS = 9999
MOST_ROUND = 600
MOST_WEIGHT = 99


def is_whole(thing):
    """Whether it is a whole number: Python takes True and False for numbers, a plan doesn't."""
    return isinstance(thing, int) and not isinstance(thing, bool)


def is_within(thing, least, most):
    """Whether it is a whole number from least to most."""
    return is_whole(thing) and least <= thing <= most


def is_row_of(thing, many, least, most):
    """Whether it is a tuple of so many whole numbers, each from least to most."""
    if not (isinstance(thing, tuple) and len(thing) == many):
        return False
    return all([is_within(number, least, most) for number in thing])


def is_name(thing):
    """Whether it is a text of one to eight small letters."""
    if not (isinstance(thing, str) and 1 <= len(thing) <= MOST_SIGNS):
        return False
    return all(["a" <= sign <= "z" for sign in thing])


def are_names(thing):
    """Whether it is a tuple of names that a plan can have."""
    if not (isinstance(thing, tuple) and 1 <= len(thing) <= MOST_NAMES):
        return False
    # The names are looked at first: what is no text can perhaps not be a set's member.
    return all([is_name(name) for name in thing]) and len(set(thing)) == len(thing)


def is_span(thing, works):
    """Whether it is a span of a plan with so many works."""
    if not (isinstance(thing, tuple) and len(thing) == 5):
        return False
    word, one, other, low, high = thing
    if word not in ("span", "apart"):
        return False
    if not (is_within(one, 0, works - 1) and is_within(other, 0, works - 1)):
        return False
    if not (is_within(low, 0, MOST_BEATS) and is_within(high, 0, MOST_BEATS)):
        return False
    return word == "apart" or low <= high


def is_plan(thing):
    """Whether it is a plan: a pair of names and spans."""
    if not (isinstance(thing, tuple) and len(thing) == 2):
        return False
    names, spans = thing
    if not (are_names(names) and isinstance(spans, tuple) and len(spans) <= MOST_SPANS):
        return False
    return all([is_span(span, len(names)) for span in spans])


def is_round(thing):
    """Whether it is a round."""
    return is_within(thing, 1, MOST_ROUND)


def are_beats(plan, period, thing):
    """Whether it is beats of this plan by this round."""
    return is_row_of(thing, len(plan[0]), 0, period - 1)


def are_weights(plan, thing):
    """Whether it is weights of this plan."""
    return is_row_of(thing, len(plan[1]), 0, MOST_WEIGHT)


def top_of(plan, period, s):
    """The most that the length of span s may be, for it to be kept."""
    word, one, other, low, high = plan[1][s]
    return high if word == "span" else period - high


def window_of(plan, period, s):
    """The least and the most length by which span s is kept; void where the most is less."""
    low = plan[1][s][3]
    return (low, min(top_of(plan, period, s), low + period - 1))


def windows_of(plan, period):
    """The windows of all spans, in order."""
    return tuple([window_of(plan, period, s) for s in range(len(plan[1]))])


def with_window(windows, s, window):
    """The windows with this one in the place of that of span s."""
    return windows[:s] + (window,) + windows[s + 1:]


def length_of(plan, period, beats, s):
    """The least number of beats from low on that lies between the works of span s."""
    word, one, other, low, high = plan[1][s]
    return low + (beats[other] - beats[one] - low) % period


def lengths_of(plan, period, beats):
    """The lengths of all spans, in order."""
    return tuple([length_of(plan, period, beats, s) for s in range(len(plan[1]))])


def unkept(plan, period, beats):
    """The number of the first span that these beats don't keep, None where they keep all."""
    for s in range(len(plan[1])):
        if length_of(plan, period, beats, s) > top_of(plan, period, s):
            return s
    return None
