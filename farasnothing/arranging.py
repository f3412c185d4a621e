"""The cheapest further knowledge with which so many notices are enough."""

from farasnothing.arrangements import all_arrangements, arranged_by, is_within_other, place_arranged, price_arranged
from farasnothing.knowing import is_inner
from farasnothing.notices import fewest


def arranged(machine, station, most, prices):
    """The cheapest arrangement by which so many notices let a station take its next item, or that there is none."""
    place_arranged(machine, station, most, prices)
    answers = {}
    rows = {}
    for price, arrangement in by_price(machine, prices):
        other = arranged_by(machine, arrangement)
        known = (other.knows, other.roofs)
        if known not in answers:
            answers[known] = fewest(other, station, most)
        answer = answers[known]
        if answer[0] == "notices":
            return ("arranged", price, arrangement, answer[1], greatest_rows(rows))
        rows[widest(other)] = answer[:2]
    return ("none", greatest_rows(rows))


def by_price(machine, prices):
    """All arrangements, each with its price, the cheapest ones first."""
    return sorted([(price_arranged(machine, prices, one), one) for one in all_arrangements(machine)])


def widest(machine):
    """The greatest arrangement by which a machine stays as it is."""
    return (machine.knows, tuple([line for line, _ in enumerate(machine.wires) if is_inner(machine, line)]))


def greatest_rows(rows):
    """Those rows, of different arrangements, that are not within another one."""
    return tuple([(one, rows[one]) for one in rows
                  if not any([other != one and is_within_other(one, other) for other in rows])])
