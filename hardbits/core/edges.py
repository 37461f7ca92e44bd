"""Least edges, worked out for values that are known to be right."""

from hardbits.base.exact import lowest_row, minus, ordered, reduced
from hardbits.base.margins import products, size_of
from hardbits.game.programs import Program

# So much is added to the greatest sum, divided by d N, that it is above 0.
_RAISED = 2


def _edge_program(lines, offsets, bottom, size):
    """The program whose numbers are a measure, divided by the raised greatest sum, and what 1 is then.

    The more 1 is then, the less is that sum; a measure with a greater sum than d N is let, but never best, as
    1 is added to each line. What can be long stands in one column alone, so that the integers stay short.
    """
    points = len(lines[0])
    raised = [((_RAISED - 1) * bottom + offset) * size[0] for offset in offsets]
    rows = [[number + 1 for number in line] + [last] for line, last in zip(lines, raised)]
    for point in range(points):
        rows.append([1 if other == point else 0 for other in range(points)] + [-bottom * size[1]])
    rows.append([-1] * points + [bottom * size[0]])
    bounds = [1] * len(lines) + [0] * (points + 1)
    return Program(rows, bounds, [0] * points + [1])


def least_greatest(lines, offsets, bottom, size):
    """The least v, a measure, and a mix of the lines which shows that none has less.

    Each line has a number from -1 to 1 for each point, and an offset over the bottom; for some measure of the size,
    the sum of each line with it, divided by the size, and the offset come to at most v, which is at least -1.
    """
    program = _edge_program(lines, offsets, bottom, size)
    program.solve()
    best, points = program.best(), len(lines[0])
    v = minus(reduced(program.scale, best * bottom * size[0]), (_RAISED, 1))
    w = lowest_row(best * bottom * size[1], program.weights()[:points])
    prices = program.prices()[:len(lines)]
    return (v, w, lowest_row(sum(prices), prices))


def edge_of(f, family, d):
    """The least edge, a measure that has it, and a mix that shows that none has less."""
    return least_greatest(products(f, family), [0] * len(family), 1, size_of(len(f), d))


def core_or_mix(f, family, d, e):
    """A core, or a mix that is above e for the share, named."""
    v, w, y = edge_of(f, family, d)
    if ordered(v, e) <= 0:
        return ("core", w)
    return ("mix", y)
