"""Polynomials of integers, falling lists of which the first entry is 1, with integers from 0 on as their roots."""


def roots_of(coefficients, most):
    """Return the falling list of all roots, each as often as it is one, or None if not all are from 0 to most."""
    left, high, found = list(coefficients), most, []
    while len(left) > 1:
        root = greatest_root(left, high)
        if root is None:
            return None
        found.append(root)
        left, high = divided_out(left, root)[:-1], root
    return found


def greatest_root(coefficients, most):
    """Return the greatest root from 0 to most, None if there is none, or none of this kind alone.

    If all roots are integers from 0 on, none is above a number exactly if all coefficients around it are from 0 on.
    """
    low, high = 0, most
    if not is_beyond(coefficients, high):
        return None
    while low < high:
        middle = (low + high) // 2
        if is_beyond(coefficients, middle):
            high = middle
        else:
            low = middle + 1
    return low if divided_out(coefficients, low)[-1] == 0 else None


def is_beyond(coefficients, number):
    """Return whether the coefficients of the polynomial around a number are all from 0 on."""
    left = list(coefficients)
    while left:
        left = divided_out(left, number)
        if left.pop() < 0:
            return False
    return True


def divided_out(coefficients, root):
    """Return the coefficients of the polynomial divided by the unknown less a number, and behind them what is left."""
    result = []
    for entry in coefficients:
        result.append(entry if not result else entry + root * result[-1])
    return result
