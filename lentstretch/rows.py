"""The rows of the journal: their kinds and their bytes."""

SUBNET = 1
HOLE = 2
RESERVATION = 3
RESERVATION_GONE = 4
CLASS = 5
LIMIT = 6
OPTION = 7
OPTION_GONE = 8
LEASE = 9
RELEASE = 10
REST = 11
RECORD = 12
COUNT = 13

TIME_WIDTH = 8

# How many bytes each number behind the row's time has, by the row's kind.
WIDTHS = {
    1: (1, 4, 4, 8, 8, 8, 8),
    2: (1, 4, 4),
    3: (4, 6),
    4: (4,),
    5: (6, 1),
    6: (1, 1, 4),
    7: (1, 6, 1),
    8: (1, 6, 1),
    9: (4, 6, 8, 8),
    10: (4, 8),
    11: (4, 8, 8),
    12: (4, 6, 8, 8, 1),
    13: (8,),
}


class Row:
    def __init__(self, kind, at, numbers, value):
        self.kind = kind
        self.at = at
        self.numbers = numbers
        self.value = value


def number_bytes(number, width):
    return [(number >> (8 * place)) & 255 for place in range(width - 1, -1, -1)]


def sum_of(row):
    total = 1
    for byte in row:
        total = (31 * total + byte + 1) % 65521
    return total


def row_bytes(kind, at, numbers, value):
    body = number_bytes(at, TIME_WIDTH)
    for number, width in zip(numbers, WIDTHS[kind], strict=True):
        body.extend(number_bytes(number, width))
    body.extend(value)
    row = [kind, len(body)] + body
    return row + number_bytes(sum_of(row), 2)


def number_of(stored):
    number = 0
    for byte in stored:
        number = number * 256 + byte
    return number


def body_row(kind, body):
    widths = (TIME_WIDTH,) + WIDTHS[kind]
    left_over = len(body) - sum(widths)
    if left_over < 0 or (left_over > 0 and kind != OPTION):
        return None
    numbers = []
    at = 0
    for width in widths:
        numbers.append(number_of(body[at:at + width]))
        at = at + width
    return Row(kind, numbers[0], numbers[1:], body[at:])


# The row that begins at start, or None if none can be read there.
def read_row(stored, start):
    if start + 2 > len(stored) or stored[start] not in WIDTHS:
        return None
    stop = start + 2 + stored[start + 1]
    if stop + 2 > len(stored) or sum_of(stored[start:stop]) != number_of(stored[stop:stop + 2]):
        return None
    return body_row(stored[start], stored[start + 2:stop])


def row_size(stored, start):
    return stored[start + 1] + 4
