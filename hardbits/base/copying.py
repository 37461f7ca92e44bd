"""Copies of truths and the lines of tests on them: for values that are known to be right."""

from hardbits.base.exact import by, minus, plus


def copies_of(truths):
    """The product of the truths' signs at each point of copies."""
    signs = (1,)
    for truth in truths:
        signs = tuple([sign * told for sign in signs for told in truth])
    return signs


def lines_of(N, k, test):
    """The ascending tuple of the unlike lines of a test."""
    found, step = {}, 1
    for _ in range(k):
        for start in range(len(test)):
            if start // step % N == 0:
                line = test[start:start + N * step:step]
                found[line] = True
                found[tuple([-sign for sign in line])] = True
        step *= N
    return tuple(sorted(found))


def bound_of(d, e, k):
    """(1 - d) ** k + e (1 - (1 - d) ** k)."""
    off = (1, 1)
    for _ in range(k):
        off = by(off, minus((1, 1), d))
    return plus(off, by(e, minus((1, 1), off)))
