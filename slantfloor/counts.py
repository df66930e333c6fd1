"""How many floors there are with three directions: a product and a determinant [20]."""


def product(p, q, r):
    # Over k from 1 to r each factor's upper part is the next one's lower part: so (i + j + r - 1) / (i + j - 1) is
    # left of these. It is divided once, at the end, as parts of the product need not be whole.
    upper = 1
    lower = 1
    for i in range(1, p + 1):
        for j in range(1, q + 1):
            upper *= i + j + r - 1
            lower *= i + j - 1
    return upper // lower


def choose(n, k):
    if k < 0 or k > n:
        return 0
    ways = 1
    for step in range(min(k, n - k)):
        # Ahead of the division there stand the ways to choose step things, times n - step: it always comes out.
        ways = ways * (n - step) // (step + 1)
    return ways


def place_of_pivot(table, column):
    for place in range(column, len(table)):
        if table[place][column] != 0:
            return place
    return None


def cleared(numbers, pivot, column, divisor):
    """A new list: the numbers behind the column once the pivot's list is taken away from them."""
    told = list(numbers)
    for place in range(column + 1, len(numbers)):
        told[place] = (pivot[column] * numbers[place] - numbers[column] * pivot[place]) // divisor
    return told


def determinant(rows):
    # All numbers stay whole: divided by the pivot ahead, each is the determinant of a part of the lists.
    table = list(rows)
    sign = 1
    divisor = 1
    for column in range(len(table)):
        place = place_of_pivot(table, column)
        if place is None:
            return 0
        pivot = table[place]
        if place != column:
            sign = -sign
            table[place] = table[column]
            table[column] = pivot
        for below in range(column + 1, len(table)):
            table[below] = cleared(table[below], pivot, column, divisor)
        divisor = pivot[column]
    return sign * divisor


def by_ways(p, q, r):
    table = []
    for i in range(r):
        table.append([choose(p + q, p - i + j) for j in range(r)])
    return determinant(table)
