"""Tables of shares, and the rank and the solutions of rows of numbers."""

from caskyears.anew import built_anew
from caskyears.elimination import rank_of, solved
from caskyears.errors import InvalidNumber, InvalidTable, Unlike
from caskyears.fills import MOST_CASKS
from caskyears.fractions import ONE, ZERO, check_fraction, is_fraction, is_from_zero, is_share, products, total
from caskyears.grids import grid_of, powered, product_of, rows_of, still_grid


def is_table(value):
    """Return whether any object is a table."""
    if not isinstance(value, tuple) or not 1 <= len(value) <= MOST_CASKS:
        return False
    if not all([is_table_row(row, len(value)) for row in value]):
        return False
    return all([is_share(column) for column in column_sums(value)])


def is_table_row(value, casks):
    """Return whether any object is a tuple of so many fractions from 0 on."""
    return isinstance(value, tuple) and len(value) == casks and all([is_from_zero(entry) for entry in value])


def column_sums(table):
    """Return the list of what the columns add up to."""
    return [total([row[at] for row in table]) for at in range(len(table))]


def still(casks):
    """Return the table that leaves all as it is."""
    check_casks(casks)
    return rows_of(still_grid(casks))


def behind(one, other):
    """Return the table of doing the one and then the other one."""
    check_table(one)
    check_table(other)
    if len(one) != len(other):
        raise Unlike(len(other))
    return rows_of(product_of(grid_of(other), grid_of(one)))


def power(table, rounds):
    """Return the table of so many times."""
    check_table(table)
    check_rounds(rounds)
    return powered(grid_of(table), rounds)


def keeps_all(table):
    """Return whether nothing is lost."""
    check_table(table)
    return all([column == ONE for column in column_sums(table)])


def check_table(value):
    """Raise an error for what is no table."""
    if not is_table(value):
        raise InvalidTable(built_anew(value))


def check_casks(casks):
    """Raise an error for a number of casks that no cellar has."""
    if not 1 <= casks <= MOST_CASKS:
        raise InvalidNumber(casks)


def check_rounds(rounds):
    """Raise an error for a number of rounds below 0."""
    if rounds < 0:
        raise InvalidNumber(rounds)


def rank(numbers):
    """Return the rank of a list of rows of numbers."""
    check_numbers(numbers)
    return rank_of(numbers)


def solutions(numbers, right):
    """Return which lists give the right sides, row times list, or the factors of the rows that show there are none."""
    check_equations(numbers, right)
    return solved(numbers, right)


def solutions_hold(numbers, right, value):
    """Return whether any object tells the solutions truly."""
    check_equations(numbers, right)
    if not isinstance(value, tuple) or not 2 <= len(value) <= 3 or not isinstance(value[0], str):
        return False
    if value[0] == "none":
        return len(value) == 2 and refutes(numbers, right, value[1])
    if not is_list_of(value[1], len(numbers[0])) or row_sums(numbers, value[1]) != list(right):
        return False
    ways = len(numbers[0]) - rank_of(numbers)
    if value[0] == "one":
        return len(value) == 2 and ways == 0
    return value[0] == "many" and len(value) == 3 and ways > 0 and are_ways(numbers, value[2], ways)


def check_numbers(numbers):
    """Raise an error for what is no list of rows of numbers."""
    if not are_numbers(numbers):
        raise InvalidTable(built_anew(numbers))


def check_equations(numbers, right):
    """Raise an error for what are no rows of numbers with a right side for each one."""
    check_numbers(numbers)
    for entry in right:
        check_fraction(entry)
    if len(right) != len(numbers):
        raise Unlike(len(numbers))


def are_numbers(value):
    """Return whether any object is a list of one to eight rows of one length, from one to eight, of fractions."""
    if not isinstance(value, list) or not 1 <= len(value) <= MOST_CASKS:
        return False
    if not isinstance(value[0], list) or not 1 <= len(value[0]) <= MOST_CASKS:
        return False
    return all([is_list_of(row, len(value[0])) for row in value])


def is_list_of(value, many):
    """Return whether any object is a list of so many fractions."""
    return isinstance(value, list) and len(value) == many and all([is_fraction(entry) for entry in value])


def row_sums(numbers, factors):
    """Return the list of the sums of each row times the factors."""
    return [products(row, factors) for row in numbers]


def refutes(numbers, right, factors):
    """Return whether any object is factors of the rows that make them 0, but not the right sides."""
    if not is_list_of(factors, len(numbers)):
        return False
    columns = [[row[at] for row in numbers] for at in range(len(numbers[0]))]
    return all([sums == ZERO for sums in row_sums(columns, factors)]) and products(right, factors) != ZERO


def are_ways(numbers, value, many):
    """Return whether any object is a list of so many lists, free of one another, that give 0 in all rows."""
    if not isinstance(value, list) or len(value) != many:
        return False
    if not all([is_list_of(way, len(numbers[0])) for way in value]):
        return False
    return rank_of(value) == many and all([sums == ZERO for way in value for sums in row_sums(numbers, way)])
