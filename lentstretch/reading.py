"""How calls are laid one behind another in one list, and which numbers they may have."""

from lentstretch.bounds import MOST_VALUE_BYTES

# The least and the greatest allowed of each of a call's whole numbers, by the call's place.
RANGES = {
    0: ((64, 1000000), (1, 4096), (1, 2147483648)),
    1: ((0, 4611686018427387904),),
    2: (
        (0, 255),
        (0, 4294967295),
        (0, 4294967295),
        (0, 4611686018427387904),
        (0, 4611686018427387904),
        (0, 4611686018427387904),
        (0, 4611686018427387904),
    ),
    3: ((0, 255), (0, 4294967295), (0, 4294967295)),
    4: ((0, 4294967295), (0, 281474976710655)),
    5: ((0, 4294967295),),
    6: ((0, 281474976710655), (0, 255)),
    7: ((0, 255), (0, 255), (0, 4294967295)),
    8: ((0, 3), (0, 281474976710655), (0, 255)),
    9: ((0, 3), (0, 281474976710655), (0, 255)),
    10: ((0, 255), (0, 281474976710655), (-1, 4294967295), (0, 4611686018427387904)),
    11: ((0, 281474976710655), (0, 4294967295), (0, 4611686018427387904)),
    12: ((0, 281474976710655), (0, 4294967295), (0, 4611686018427387904), (0, 4611686018427387904)),
}

# The calls that have a list behind their whole numbers.
LISTED = (8,)


class Call:
    def __init__(self, place, numbers, value):
        self.place = place
        self.numbers = numbers
        self.value = value


def read_calls(calls):
    found = []
    at = 0
    while at < len(calls):
        place = calls[at]
        start = at + 1
        at = start + len(RANGES[place])
        numbers = calls[start:at]
        value = []
        if place in LISTED:
            start = at + 1
            at = start + calls[at]
            value = calls[start:at]
        found.append(Call(place, numbers, value))
    return found


def are_value_bytes(value):
    return len(value) <= MOST_VALUE_BYTES and all([0 <= number <= 255 for number in value])


def is_in_range(call):
    for number, bounds in zip(call.numbers, RANGES[call.place], strict=True):
        if not bounds[0] <= number <= bounds[1]:
            return False
    return are_value_bytes(call.value)
