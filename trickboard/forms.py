"""The forms of the calls: how many numbers each has, and in which ranges they are."""

# For each call the least and the greatest value of each of its plain arguments.
ARGUMENTS = {
    0: ((0, 3), (0, 4)),
    1: ((0, 3), (0, 51)),
    2: ((0, 1),),
    3: ((0, 51),),
    4: ((1, 2), (0, 3)),
    5: ((0, 1), (0, 13)),
    6: ((0, 1),),
    7: ((0, 400),),
    8: (),
    9: ((0, 3),),
    10: (),
    11: ((1, 13),),
    12: (),
    13: (),
    14: (),
    15: (),
    16: (),
    17: ((0, 51),),
}

# For each call with a row: the range of the row's length, and that of its numbers.
ROWS = {
    0: ((52, 52), (0, 4)),
    16: ((0, 400), (0, 255)),
}


def argument_count(number):
    return len(ARGUMENTS[number])


def has_row(number):
    return number in ROWS


def is_within(value, bounds):
    return bounds[0] <= value and value <= bounds[1]


def arguments_fit(number, arguments):
    for value, bounds in zip(arguments, ARGUMENTS[number]):
        if not is_within(value, bounds):
            return False
    return True


def row_fits(number, row):
    if not has_row(number):
        return True
    lengths = ROWS[number][0]
    bounds = ROWS[number][1]
    return is_within(len(row), lengths) and all([is_within(value, bounds) for value in row])
