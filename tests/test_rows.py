"""The journal: the bytes of each row that a call writes, what it then changes, and the room that it takes."""

import unittest

from helper import (
    MOST_ADDRESS, MOST_CLIENT, TOP, ask, begin, class_of, crash, decline, discover, ending, hole, joined, journal, last,
    lease, leases, lend, limit, load, offers, option, options, release, renew, request, reserve, row, subnet, tick,
    unoption, unreserve, usage,
)
from lentstretch.reading import read_calls
from lentstretch.rows import number_bytes, row_bytes, sum_of
from lentstretch.server import answer_call
from lentstretch.state import Server

SET_UP = [begin(), tick(3), subnet()]
SUBNET_ROW = row(1, 3, 1, 10, 19, 5, 10, 100, 7)


def served(calls):
    server = Server()
    for call in calls:
        answer_call(server, read_calls(call)[0])
    return server


def stored(calls):
    """The journal's bytes behind these calls."""
    given = last(calls + [journal()])
    assert given[0] == len(given) - 1, given
    return given[1:]


class Bytes(unittest.TestCase):
    def test_numbers_have_the_greatest_byte_first(self):
        self.assertEqual(number_bytes(0x0102, 4), [0, 0, 1, 2])
        self.assertEqual(number_bytes(MOST_CLIENT, 6), [255] * 6)
        self.assertEqual(number_bytes(TOP, 8), [64, 0, 0, 0, 0, 0, 0, 0])

    def test_sums_reckoned_by_hand(self):
        self.assertEqual(sum_of([]), 1)
        self.assertEqual(sum_of([0]), 32)
        self.assertEqual(sum_of([4, 12]), 31 * 36 + 13)
        self.assertEqual(sum_of([255, 255, 255]), ((31 * (31 * 287 + 256) + 256) % 65521))

    def test_a_row_written_out(self):
        plain = [4, 12, 0, 0, 0, 0, 0, 0, 0, 3, 0, 0, 1, 2, 238, 242]
        self.assertEqual(row_bytes(4, 3, [258], []), plain)
        self.assertEqual(stored([begin(), tick(3), subnet(1, 0, 999), reserve(258, 1), unreserve(258)])[-16:], plain)

    def test_the_journal_as_it_is_answered(self):
        self.assertEqual(ask([begin(), journal()]), [[0], [0]])
        self.assertEqual(last(SET_UP + [journal()]), [53, *SUBNET_ROW])
        self.assertEqual(last(SET_UP + [class_of(5, 9), journal(), journal()], 2),
                         [[72, *SUBNET_ROW, *row(5, 3, 5, 9)]] * 2)

    def test_every_row_that_the_calls_write(self):
        cases = [
            ([subnet(2, 0, 9, 1, 2, TOP, 4)], row(1, 3, 2, 0, 9, 1, 2, TOP, 4)),
            ([hole(1, 11, 12)], row(2, 3, 1, 11, 12)),
            ([reserve(11, MOST_CLIENT)], row(3, 3, 11, MOST_CLIENT)),
            ([reserve(11, 5), unreserve(11)], row(4, 3, 11)),
            ([class_of(5, 255)], row(5, 3, 5, 255)),
            ([class_of(5, 255), class_of(5, 0)], row(5, 3, 5, 0)),
            ([limit(1, 2, MOST_ADDRESS)], row(6, 3, 1, 2, MOST_ADDRESS)),
            ([option(3, 5, 9)], row(7, 3, 3, 5, 9)),
            ([option(3, 5, 9, range(64))], row(7, 3, 3, 5, 9, value=range(64))),
            ([option(3, 5, 9), unoption(3, 5, 9)], row(8, 3, 3, 5, 9)),
            (lend(5, 15), row(9, 3, 15, 5, 1, 13)),
            (lend(5, 15) + [renew(5, 15, 1, 70)], row(9, 3, 15, 5, 1, 73)),
            (lend(5, 15) + [request(5, 15, 70)], row(9, 3, 15, 5, 1, 73)),
            (lend(5, 15) + [tick(2), release(5, 15, 1)], row(10, 5, 15, 1)),
            (lend(5, 15) + [tick(2), decline(5, 15, 1)], row(11, 5, 15, 1, 12)),
        ]
        for calls, expected in cases:
            with self.subTest(calls=calls):
                self.assertEqual(stored(SET_UP + calls), stored(SET_UP + calls[:-1]) + expected)

    def test_rows_stand_one_behind_the_other(self):
        self.assertEqual(
            stored([begin(), tick(TOP), reserve(1, 1), class_of(5, 1), tick(0), class_of(5, 2)]),
            joined(row(5, TOP, 5, 1), row(5, TOP, 5, 2)),
        )

    def test_what_writes_nothing(self):
        calls = SET_UP + lend(5, 15)
        before = stored(calls)
        for call in (
            tick(3), discover(1, 5), discover(1, 6), discover(9, 6), subnet(), class_of(5, 0), renew(5, 15, 9),
            release(5, 15, 9), decline(6, 15, 1), options(1, 5, [1]), lease(15), leases(5), ending(), usage(), journal(),
            offers(), crash(0), load(before), begin(63),
        ):
            self.assertEqual(stored(calls + [call]), before)


class Applied(unittest.TestCase):
    def test_latest_is_the_time_of_the_last_row(self):
        self.assertEqual(served(SET_UP).kept.latest, 3)
        self.assertEqual(served(SET_UP + [tick(4)]).kept.latest, 3)
        self.assertEqual(served(SET_UP + [tick(4), hole(1, 11, 12)]).kept.latest, 7)

    def test_nothing_is_kept_at_first(self):
        kept = served([begin(), tick(3)]).kept
        self.assertEqual((kept.latest, kept.count), (0, 0))
        self.assertEqual([kept.subnets, kept.reserved, kept.classes, kept.limits, kept.options, kept.records], [{}] * 6)

    def test_a_subnet(self):
        one = served([begin(), subnet(8, 1, 2, 3, 4, 5, 6)]).kept.subnets[8]
        self.assertEqual((one.ident, one.first, one.last, one.least, one.usual, one.most, one.rest), (8, 1, 2, 3, 4, 5, 6))
        self.assertEqual(one.holes, [])

    def test_holes_keep_their_order(self):
        self.assertEqual(served(SET_UP + [hole(1, 15, 16), hole(1, 11, 12)]).kept.subnets[1].holes, [(15, 16), (11, 12)])

    def test_options_and_limits_are_put_in_the_place_of_older_ones(self):
        kept = served(SET_UP + [option(0, 0, 9, [1]), option(0, 0, 9, [2, 3]), limit(1, 0, 4), limit(1, 0, 5)]).kept
        self.assertEqual(kept.options, {(0, 0, 9): [2, 3]})
        self.assertEqual(kept.limits, {(1, 0): 5})

    def test_a_lease(self):
        calls = SET_UP + lend(5, 15) + [renew(5, 15, 1, 70)]
        self.assertEqual(last(calls + [lease(15)]), [15, 5, 1, 73, 0])
        self.assertEqual((served(calls).kept.count, len(served(calls).kept.records)), (1, 1))


class Room(unittest.TestCase):
    def just_fits(self, size, *calls):
        """The last call takes the journal to this many bytes: it fits in that room, and not in a byte less."""
        given = last([begin(size), *calls])
        self.assertGreaterEqual(given[0], 0)
        self.assertEqual(given, last([begin(), *calls]))
        self.assertEqual(last([begin(size - 1), *calls]), [-9])

    def test_the_last_row_fits_or_not(self):
        self.just_fits(53 + 53, subnet(), subnet(2, 20, 29))
        self.just_fits(53 + 21, subnet(), hole(1, 12, 12))
        self.just_fits(53 + 22, subnet(), reserve(12, 5))
        self.just_fits(53 + 22 + 16, subnet(), reserve(12, 5), unreserve(12))
        self.just_fits(53 + 19, subnet(), class_of(5, 1))
        self.just_fits(53 + 18, subnet(), limit(1, 0, 5))
        self.just_fits(53 + 20, subnet(), option(0, 0, 1))
        self.just_fits(53 + 20 + 64, subnet(), option(0, 0, 1, [1] * 64))
        self.just_fits(53 + 21 + 20, subnet(), option(0, 0, 1, [1]), unoption(0, 0, 1))
        self.just_fits(53 + 38, subnet(), *lend(5, 15))
        self.just_fits(53 + 38 + 38, subnet(), *lend(5, 15), renew(5, 15, 1))
        self.just_fits(53 + 38 + 38, subnet(), *lend(5, 15), request(5, 15))
        self.just_fits(53 + 38 + 24, subnet(), *lend(5, 15), release(5, 15, 1))
        self.just_fits(53 + 38 + 32, subnet(), *lend(5, 15), decline(5, 15, 1))

    def test_no_room_comes_last_of_all(self):
        """A journal of 53 + 38 bytes is full: what else refuses a call is told all the same."""
        full = [begin(53 + 38), subnet(), *lend(5, 15), discover(1, 6, 16), tick(1)]
        self.assertEqual(last(full + [hole(1, 12, 12)]), [-9])
        for call, refusal in (
            (subnet(), -7), (subnet(2, 30, 29), -6), (subnet(2, 19, 20), -10), (subnet(2, 20, 20), -9),
            (hole(2, 12, 12), -4), (hole(1, 12, 20), -6), (reserve(20, 5), -4), (reserve(19, 5), -9),
            (unreserve(12), -8), (class_of(5, 0), -7), (class_of(5, 1), -9), (limit(2, 0, 0), -4), (limit(1, 0, 0), -9),
            (option(0, 1, 1), -6), (option(0, 0, 1), -9), (unoption(0, 0, 1), -8), (request(5, 16), -12),
            (request(7, 16), -8), (request(6, 16), -9), (request(5, 15), -9), (renew(5, 15, 2), -8), (renew(5, 15, 1), -9),
            (option(0, 0, 256), -2), (release(5, 15, 2), -8), (release(5, 15, 1), -9), (decline(5, 15, 2), -8),
            (decline(5, 15, 1), -9), (release(5, 15, -1), -2), (decline(5, 15, -1), -2),
        ):
            with self.subTest(call=call):
                self.assertEqual(last(full + [call]), [refusal])

    def test_no_room_behind_each_refusal_of_request(self):
        full = [begin(53 + 53 + 38 + 21), subnet(), subnet(2, 30, 39), *lend(5, 15), discover(1, 6, 16)]
        self.assertEqual(last(full + [hole(1, 16, 16), request(6, 16)]), [-10])
        self.assertEqual(last(full + [limit(1, 0, 1), request(6, 16)]), [-11])

    def test_refused_for_room_nothing_changes(self):
        calls = [begin(53 + 38 + 22), subnet(), discover(1, 5, 15), class_of(9, 1), request(5, 15), reserve(12, 7)]
        self.assertEqual(ask(calls + [request(5, 15)])[3:], [[0], [1, 10], [-9], [-9]])
        calls = [begin(90), subnet(), discover(1, 5, 15), request(5, 15), discover(1, 6, 15), discover(1, 5)]
        self.assertEqual(ask(calls)[2:], [[15, 10, 60], [-9], [10, 10, 60], [11, 10, 60]])

    def test_what_is_shorter_still_fits(self):
        self.assertEqual(ask([begin(53 + 18), subnet(), class_of(5, 1), limit(1, 0, 3)]), [[0], [0], [-9], [0]])


if __name__ == "__main__":
    unittest.main()
