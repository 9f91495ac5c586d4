"""How calls are laid one behind another in one list, and which numbers they may have."""

from lentstretch.bounds import MOST_VALUE_BYTES

# The least and the greatest allowed of each of a call's whole numbers, by the call's place.
RANGES = {
    0: ((64, 1000000), (1, 4096), (1, 2147483648)),
    1: ((0, 4611686018427387904),),
    2: (
        (0, 255),
        (0, 4294967295),
        (0, 4294967295),
        (0, 4611686018427387904),
        (0, 4611686018427387904),
        (0, 4611686018427387904),
        (0, 4611686018427387904),
    ),
    3: ((0, 255), (0, 4294967295), (0, 4294967295)),
    4: ((0, 4294967295), (0, 281474976710655)),
    5: ((0, 4294967295),),
    6: ((0, 281474976710655), (0, 255)),
    7: ((0, 255), (0, 255), (0, 4294967295)),
    8: ((0, 3), (0, 281474976710655), (0, 255)),
    9: ((0, 3), (0, 281474976710655), (0, 255)),
    10: ((0, 255), (0, 281474976710655), (-1, 4294967295), (0, 4611686018427387904)),
    11: ((0, 281474976710655), (0, 4294967295), (0, 4611686018427387904)),
    12: ((0, 281474976710655), (0, 4294967295), (0, 4611686018427387904), (0, 4611686018427387904)),
    13: ((0, 281474976710655), (0, 4294967295), (0, 4611686018427387904)),
    14: ((0, 281474976710655), (0, 4294967295), (0, 4611686018427387904)),
    15: ((0, 255), (0, 281474976710655)),
    16: ((0, 4294967295),),
    17: ((0, 281474976710655),),
    18: ((0, 4611686018427387904), (0, 64)),
    19: ((0, 255),),
    20: (),
    21: (),
    22: ((0, 1000000),),
    23: (),
    24: (),
}

# The calls that have a list behind their whole numbers.
LISTED = (8, 15, 21)

LOAD = 21
CRASH = 22


class Call:
    def __init__(self, place, numbers, listed):
        self.place = place
        self.numbers = numbers
        self.listed = listed


def read_calls(calls):
    found = []
    at = 0
    while at < len(calls):
        place = calls[at]
        start = at + 1
        at = start + len(RANGES[place])
        numbers = calls[start:at]
        listed = []
        if place in LISTED:
            start = at + 1
            at = start + calls[at]
            listed = calls[start:at]
        found.append(Call(place, numbers, listed))
    return found


def are_numbers_in_range(call):
    for number, bounds in zip(call.numbers, RANGES[call.place], strict=True):
        if not bounds[0] <= number <= bounds[1]:
            return False
    return True


def are_bytes(listed, most):
    return len(listed) <= most and all([0 <= number <= 255 for number in listed])


# What load and crash may be told hangs on the server as it is then.
def is_in_range(server, call):
    if not are_numbers_in_range(call):
        return False
    if call.place == LOAD:
        return are_bytes(call.listed, server.room)
    if call.place == CRASH:
        return call.numbers[0] <= len(server.journal)
    return are_bytes(call.listed, MOST_VALUE_BYTES)
