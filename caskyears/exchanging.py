"""Exchanges between two casks at a time, by which falling shares come to be more even."""

from caskyears.fractions import added, divided, lessened, lesser, multiplied, order


def exchanges_to(sizes, ones, others):
    """Return a list of tuples (more, fewer, volume) by which the ones come to be the others.

    Sizes tell how much has each share; both lists of shares fall, and for each number of first entries the ones
    have at least as much as the others, all together just as much. Between the last entry that has too much and the
    first one behind it that has too little all are right: so the shares stay falling, and each exchange of the
    volume makes at least one entry right, the last one two.
    """
    now, steps = list(ones), []
    while now != others:
        signs = [order(here, wanted) for here, wanted in zip(now, others)]
        more = max([at for at, sign in enumerate(signs) if sign > 0])
        fewer = min([at for at, sign in enumerate(signs) if sign < 0 and at > more])
        too_much = multiplied(sizes[more], lessened(now[more], others[more]))
        too_little = multiplied(sizes[fewer], lessened(others[fewer], now[fewer]))
        moved = lesser(too_much, too_little)
        steps.append((more, fewer, divided(moved, lessened(now[more], now[fewer]))))
        now[more] = lessened(now[more], divided(moved, sizes[more]))
        now[fewer] = added(now[fewer], divided(moved, sizes[fewer]))
    return steps
