"""The rows of the journal: their kinds and their bytes."""

SUBNET = 1
HOLE = 2
RESERVATION = 3
RESERVATION_GONE = 4
CLASS = 5
LIMIT = 6
OPTION = 7
OPTION_GONE = 8
LEASE = 9

TIME_WIDTH = 8

# How many bytes each number behind the row's time has, by the row's kind.
WIDTHS = {
    1: (1, 4, 4, 8, 8, 8, 8),
    2: (1, 4, 4),
    3: (4, 6),
    4: (4,),
    5: (6, 1),
    6: (1, 1, 4),
    7: (1, 6, 1),
    8: (1, 6, 1),
    9: (4, 6, 8, 8),
}


def number_bytes(number, width):
    return [(number >> (8 * place)) & 255 for place in range(width - 1, -1, -1)]


def sum_of(row):
    total = 1
    for byte in row:
        total = (31 * total + byte + 1) % 65521
    return total


def row_bytes(kind, at, numbers, value):
    body = number_bytes(at, TIME_WIDTH)
    for number, width in zip(numbers, WIDTHS[kind], strict=True):
        body.extend(number_bytes(number, width))
    body.extend(value)
    row = [kind, len(body)] + body
    return row + number_bytes(sum_of(row), 2)
