"""The checker of cases that no times wait less than a bound: it looks at them and seeks nothing."""

from beatplans.cases import has_shape, look_through, node_fault, split_sides
from beatplans.plans import windows_of
from beatplans.prices import are_prices, shown_by


def price_fault(plan, period, weights, bound, windows, prices):
    """The word for why this thing isn't prices that show the bound by these windows, None where it is."""
    if not are_prices(plan, prices):
        return "price"
    return None if shown_by(plan, period, weights, windows, prices) >= bound else "bound"


def lets_waits(plan, period, weights, bound, thing):
    """True where these are cases that no times of the plan wait less than the bound, else NoPaper."""
    def fault_of(windows, node):
        if has_shape(node, "prices", 2):
            return price_fault(plan, period, weights, bound, windows, node[1])
        return node_fault(plan, period, (), (), windows, node)

    return look_through(thing, windows_of(plan, period), fault_of, split_sides)
