"""-1 and -2: ahead of everything else, at every number of every call."""

import unittest

from helper import (
    HIGHEST, LOWEST, MOST_ADDRESS, MOST_CLIENT, TOP, ask, begin, class_of, crash, decline, discover, ending, hole, last,
    lease, leases, lend, limit, load, option, options, release, renew, request, reserve, subnet, tick, unoption, usage,
)

ADDRESS = (0, MOST_ADDRESS)
CLIENT = (0, MOST_CLIENT)
BYTE = (0, 255)
TIME = (0, TOP)

# For each call numbers that are in their ranges, and the ranges.
CALLS = {
    0: ([100, 5, 5], [(64, 1000000), (1, 4096), (1, 2147483648)]),
    1: ([5], [TIME]),
    2: ([1, 5, 5, 5, 5, 5, 5], [BYTE, ADDRESS, ADDRESS, TIME, TIME, TIME, TIME]),
    3: ([1, 10, 10], [BYTE, ADDRESS, ADDRESS]),
    4: ([10, 5], [ADDRESS, CLIENT]),
    5: ([10], [ADDRESS]),
    6: ([5, 1], [CLIENT, BYTE]),
    7: ([1, 1, 1], [BYTE, BYTE, (0, 2 ** 32 - 1)]),
    8: ([3, 1, 1, 0], [(0, 3), CLIENT, BYTE]),
    9: ([3, 1, 1], [(0, 3), CLIENT, BYTE]),
    10: ([1, 5, -1, 5], [BYTE, CLIENT, (-1, MOST_ADDRESS), TIME]),
    11: ([5, 10, 5], [CLIENT, ADDRESS, TIME]),
    12: ([5, 10, 1, 5], [CLIENT, ADDRESS, TIME, TIME]),
    13: ([5, 10, 1], [CLIENT, ADDRESS, TIME]),
    14: ([5, 10, 1], [CLIENT, ADDRESS, TIME]),
    15: ([1, 5, 0], [BYTE, CLIENT]),
    16: ([10], [ADDRESS]),
    17: ([5], [CLIENT]),
    18: ([5, 5], [TIME, (0, 64)]),
    19: ([1], [BYTE]),
    20: ([], []),
    21: ([0], []),
    22: ([0], [(0, 0)]),
    23: ([], []),
    24: ([], []),
}


def with_number(place, spot, number):
    numbers = list(CALLS[place][0])
    numbers[spot] = number
    return [place] + numbers


class Ranges(unittest.TestCase):
    def test_every_edge_of_every_number(self):
        for place, (_, ranges) in CALLS.items():
            for spot, (least, most) in enumerate(ranges):
                for number in (least - 1, most + 1, LOWEST, LOWEST + 1, HIGHEST, HIGHEST - 1):
                    with self.subTest(place=place, spot=spot, number=number):
                        self.assertEqual(last([begin(), with_number(place, spot, number)]), [-2])
                for number in (least, most):
                    with self.subTest(place=place, spot=spot, number=number):
                        self.assertNotEqual(last([begin(), with_number(place, spot, number)]), [-2])

    def test_a_value_of_at_most_64_bytes(self):
        for size, answer in ((0, 0), (1, 0), (63, 0), (64, 0), (65, -2), (66, -2), (70, -2)):
            with self.subTest(size=size):
                self.assertEqual(last([begin(), option(0, 0, 1, [7] * size), tick(3)], 2), [[answer], [3]])

    def test_a_value_of_bytes_alone(self):
        for number in (-1, 256, LOWEST, HIGHEST):
            for value in ([number], [0, number], [number, 0], [1] * 63 + [number], [1] * 69 + [number]):
                with self.subTest(value=value):
                    self.assertEqual(last([begin(), option(0, 0, 1, value), tick(3)], 2), [[-2], [3]])
        self.assertEqual(last([begin(), option(0, 0, 1, [0, 255])]), [0])

    def test_codes_of_at_most_64_bytes(self):
        for size in (0, 1, 63, 64):
            self.assertEqual(last([begin(), subnet(), options(1, 5, [7] * size), tick(3)], 2), [[0] * size, [3]])
        for size in (65, 66, 70):
            self.assertEqual(last([begin(), subnet(), options(1, 5, [7] * size), tick(3)], 2), [[-2], [3]])

    def test_codes_of_bytes_alone(self):
        for number in (-1, 256, LOWEST, HIGHEST):
            for codes in ([number], [0, number], [number, 0], [1] * 63 + [number], [1] * 69 + [number]):
                with self.subTest(codes=codes):
                    self.assertEqual(last([begin(), subnet(), options(1, 5, codes), tick(3)], 2), [[-2], [3]])
        self.assertEqual(last([begin(), subnet(), options(1, 5, [0, 255])]), [0, 0])

    def test_load_may_have_more_than_an_option(self):
        for size in (0, 1, 64, 65, 70, 71, 14999, 15000):
            self.assertEqual(last([begin(15000), load([0] * size), tick(3)], 2), [[0, 0], [3]])
        self.assertEqual(last([begin(14999), load([0] * 15000), tick(3)], 2), [[-2], [3]])

    def test_k_up_to_the_length_of_the_journal(self):
        for k, given in ((0, [1, 19]), (1, [0, 0]), (18, [0, 0]), (19, [0, 0]), (20, [-2]), (64, [-2]), (-1, [-2])):
            self.assertEqual(last([begin(64), class_of(5, 1), crash(k)]), given)


class Order(unittest.TestCase):
    def test_not_begun(self):
        for place in range(1, 25):
            with self.subTest(place=place):
                self.assertEqual(ask([[place] + CALLS[place][0]]), [[-1]])

    def test_not_begun_ahead_of_out_of_range(self):
        for place in range(1, 25):
            for number in (LOWEST, HIGHEST) if CALLS[place][1] else ():
                with self.subTest(place=place, number=number):
                    self.assertEqual(ask([with_number(place, 0, number), begin()]), [[-1], [0]])
        self.assertEqual(ask([option(0, 0, 0, [256] * 70), begin()]), [[-1], [0]])
        self.assertEqual(ask([options(0, 0, [256] * 70), load([256] * 70), begin()]), [[-1], [-1], [0]])

    def test_out_of_range_ahead_of_the_own_refusals(self):
        calls = [begin(), subnet(), *lend(5, 10), tick(1)]
        for call in (
            subnet(1, 10, 9, -1), hole(2, 10, MOST_ADDRESS + 1), reserve(50, -1), class_of(5, -1), limit(9, 9, -1),
            option(0, 1, 256), option(0, 1, 1, [256]), unoption(3, 1, -1), discover(9, 5, -2), discover(9, 5, -1, -1),
            request(5, 50, -1), renew(5, 10, 2, -1), renew(5, 10, -1), tick(TOP + 1),
            release(6, 10, -1), decline(6, 10, TOP + 1), options(9, -1), options(9, 5, [256]), options(9, 5, [1] * 65),
            lease(-1), leases(-1), ending(0, 65), ending(-1, 0), usage(256), crash(92), crash(-1),
        ):
            with self.subTest(call=call):
                self.assertEqual(last(calls + [call]), [-2])


if __name__ == "__main__":
    unittest.main()
