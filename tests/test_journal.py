"""load, crash and compact, and what they leave of the server."""

import unittest

from helper import (
    HIGHEST, LOWEST, MOST_ADDRESS, MOST_CLIENT, TOP, ask, begin, class_of, compact, crash, decline, discover, ending, hole,
    joined, journal, last, lease, leases, lend, limit, load, offers, option, options, release, renew, request, reserve,
    row, subnet, tick, unoption, unreserve, usage,
)

SUBNET = row(1, 0, 1, 10, 19, 5, 10, 100, 7)
LEASE = row(9, 0, 15, 5, 1, 10)
# Something of everything, with every kind of row that a call writes; the last row is written at 9.
EVERYTHING = [
    begin(), subnet(2, 30, 39), tick(1), subnet(), hole(2, 35, 36), hole(1, 17, 18), hole(1, 12, 13), hole(1, 12, 12),
    reserve(19, 8), reserve(11, 7), reserve(14, 6), unreserve(14), class_of(7, 3), class_of(6, 9), class_of(5, 2),
    class_of(6, 0), limit(2, 1, 50), limit(1, 9, 5), limit(1, 3, 6), limit(1, 3, 7), option(3, 5, 9, [1, 2]),
    option(0, 0, 8), option(2, 4, 9, [4]), option(2, 4, 1, range(64)), option(1, 7, 7), unoption(1, 7, 7), tick(1),
    *lend(5, 15), *lend(6, 16), tick(1), *lend(4, 10, length=50), *lend(5, 31, ident=2), renew(5, 15, 1, 60), tick(4),
    release(6, 16, 2), tick(2), decline(4, 10, 3),
]
COMPACTED = joined(
    row(1, 9, 1, 10, 19, 5, 10, 100, 7), row(1, 9, 2, 30, 39, 5, 10, 100, 7), row(2, 9, 1, 17, 18), row(2, 9, 1, 12, 13),
    row(2, 9, 1, 12, 12), row(2, 9, 2, 35, 36), row(3, 9, 11, 7), row(3, 9, 19, 8), row(5, 9, 5, 2), row(5, 9, 7, 3),
    row(6, 9, 1, 3, 7), row(6, 9, 1, 9, 5), row(6, 9, 2, 1, 50), row(7, 9, 0, 0, 8),
    row(7, 9, 2, 4, 1, value=range(64)), row(7, 9, 2, 4, 9, value=[4]), row(7, 9, 3, 5, 9, value=[1, 2]),
    row(12, 9, 10, 4, 3, 16, 2), row(12, 9, 15, 5, 1, 63, 0), row(12, 9, 16, 6, 2, 7, 1), row(12, 9, 31, 5, 4, 13, 0),
    row(13, 9, 4),
)


def stored(calls):
    return last(calls + [journal()])[1:]


def kept(calls):
    """All that is kept behind these calls, in the one form that compact gives it."""
    found = last(calls + [compact(), journal()], 2)
    assert found[0] == found[1][:1], found
    return found[1][1:]


class Load(unittest.TestCase):
    def test_answers_rows_and_bytes(self):
        self.assertEqual(last([begin(), load(joined(SUBNET, LEASE))]), [2, 53 + 38])
        self.assertEqual(last([begin(), load(joined(SUBNET, LEASE, [9, 34]))]), [2, 53 + 38])
        self.assertEqual(last([begin(), load([])]), [0, 0])

    def test_what_was_kept_is_gone(self):
        before = EVERYTHING + [load([])]
        self.assertEqual(kept(before), row(13, 0, 0))
        self.assertEqual(last(before + [usage(), lease(15), leases(5), ending(), unreserve(11), class_of(7, 0), tick(0)], 7),
                         [[-4], [-8], [0], [0], [-8], [-7], [9]])
        self.assertEqual(last(before + [subnet(), options(1, 5, [9, 8]), discover(1, 7), *lend(5, 15)], 4),
                         [[0, 0], [10, 10, 69], [15, 10, 69], [1, 19]])

    def test_what_was_read_back_is_kept(self):
        given = last([begin(), load(joined(SUBNET, LEASE)), lease(15), usage(), discover(1, 5), renew(5, 15, 1, 30)], 4)
        self.assertEqual(given, [[15, 5, 1, 10, 0], [1, 0, 0, 0, 9], [15, 10, 0], [1, 30]])

    def test_the_journal_is_the_bytes_of_the_rows_applied(self):
        for more in ([], [9], SUBNET, row(5, 0, 5, 0), LEASE[:-1]):
            self.assertEqual(stored([begin(), class_of(9, 9), load(joined(SUBNET, LEASE, more))]), joined(SUBNET, LEASE))
        self.assertEqual(stored([begin(), class_of(9, 9), load([1, 2, 3])]), [])

    def test_rows_are_written_behind_it(self):
        calls = [begin(), load(joined(SUBNET, LEASE, [0, 0])), tick(3), class_of(5, 7)]
        self.assertEqual(stored(calls), joined(SUBNET, LEASE, row(5, 3, 5, 7)))
        self.assertEqual(last(calls + [crash(0)]), [3, 53 + 38 + 19])

    def test_no_offers(self):
        calls = [begin(), subnet(), discover(1, 5, 15), load(SUBNET), offers(), request(5, 15), discover(1, 6, 15)]
        self.assertEqual(last(calls, 3), [[0], [-8], [15, 10, 60]])

    def test_now_is_the_later_of_now_and_latest(self):
        for now, at, expected in ((0, 0, 0), (5, 0, 5), (5, 4, 5), (5, 5, 5), (5, 6, 6), (0, TOP, TOP), (TOP, 3, TOP)):
            with self.subTest(now=now, at=at):
                self.assertEqual(last([begin(), tick(now), load(row(5, at, 5, 1)), tick(0)]), [expected])
        self.assertEqual(last([begin(), tick(5), load([]), tick(0)]), [5])
        self.assertEqual(last([begin(), tick(5), load(joined(row(5, 7, 5, 1), row(5, 9, 5, 1))), tick(0)]), [7])

    def test_what_was_live_then_may_be_over_now(self):
        calls = [begin(), tick(50), load(joined(SUBNET, LEASE))]
        self.assertEqual(last(calls + [lease(15), renew(5, 15, 1), usage(), discover(1, 6, 15)], 4),
                         [[15, 5, 1, 10, 0], [-8], [0, 0, 1, 0, 10], [15, 10, 110]])

    def test_room_bytes_and_one_more(self):
        rows = joined(SUBNET, LEASE)
        self.assertEqual(last([begin(91), load(rows)]), [2, 91])
        self.assertEqual(last([begin(91), load(rows + [7])]), [-2])
        self.assertEqual(last([begin(90), load(rows)]), [-2])
        self.assertEqual(last([begin(64), load([0] * 64)]), [0, 0])
        self.assertEqual(last([begin(64), load([0] * 65)]), [-2])
        self.assertEqual(last([begin(15000), load([0] * 15000)]), [0, 0])
        self.assertEqual(last([begin(14999), load([0] * 15000)]), [-2])

    def test_the_room_of_the_last_begin(self):
        self.assertEqual(last([begin(91), begin(64), load(joined(SUBNET, LEASE))]), [-2])
        self.assertEqual(last([begin(64), begin(91), load(joined(SUBNET, LEASE))]), [2, 91])
        self.assertEqual(last([begin(91), begin(63), load(joined(SUBNET, LEASE))]), [2, 91])

    def test_a_number_that_is_no_byte(self):
        for number in (-1, 256, LOWEST, HIGHEST):
            for bytes_with in ([number], [number] + SUBNET, SUBNET + [number], SUBNET + [0] * 40 + [number]):
                calls = [begin(), class_of(5, 1), load(bytes_with), journal()]
                self.assertEqual(last(calls, 2), [[-2], [19, *row(5, 0, 5, 1)]])

    def test_refused_nothing_changes(self):
        calls = [begin(64), subnet(), discover(1, 5, 15), tick(3), load([0] * 65), offers(), usage(), tick(0), journal()]
        self.assertEqual(last(calls, 5), [[-2], [1, 15, 5, 60], [0, 0, 0, 1, 9], [3], [53, *SUBNET]])

    def test_not_begun(self):
        self.assertEqual(ask([load(SUBNET), load([256] * 100), begin(), load(SUBNET)]), [[-1], [-1], [0], [1, 53]])

    def test_twice(self):
        calls = [begin(), load(joined(SUBNET, LEASE)), load(SUBNET), lease(15), load(joined(SUBNET, LEASE)), lease(15)]
        self.assertEqual(ask(calls)[1:], [[2, 91], [1, 53], [-8], [2, 91], [15, 5, 1, 10, 0]])

    def test_what_the_journal_gives_back(self):
        rows = stored(EVERYTHING)
        again = [begin(), load(rows)]
        self.assertEqual(kept(again), kept(EVERYTHING))
        self.assertEqual(stored(again), rows)
        questions = [usage(1), usage(2), lease(15), leases(5), ending(), options(1, 5, [9, 8]), options(2, 7, [1, 9]), tick(0)]
        self.assertEqual(last(again + questions, 8), last(EVERYTHING + questions, 8))


class Crash(unittest.TestCase):
    LENT = [begin(), subnet(), *lend(5, 15), tick(3), class_of(5, 7)]

    def test_answers_rows_and_bytes(self):
        for k, given in ((0, [3, 110]), (1, [2, 91]), (18, [2, 91]), (19, [2, 91]), (20, [1, 53]), (57, [1, 53]),
                         (58, [0, 0]), (109, [0, 0]), (110, [0, 0])):
            with self.subTest(k=k):
                self.assertEqual(last(self.LENT + [crash(k)]), given)

    def test_the_range_of_k(self):
        for k in (111, -1, 1000000, 1000001, LOWEST, HIGHEST):
            self.assertEqual(last(self.LENT + [crash(k), lease(15)], 2), [[-2], [15, 5, 1, 10, 0]])
        self.assertEqual(ask([begin(), crash(0), crash(1)]), [[0], [0, 0], [-2]])
        self.assertEqual(ask([crash(0), crash(-1)]), [[-1], [-1]])

    def test_the_journal_as_long_as_it_is_then(self):
        self.assertEqual(last(self.LENT + [crash(20), crash(54), crash(53), crash(1), crash(0)], 5),
                         [[1, 53], [-2], [0, 0], [-2], [0, 0]])

    def test_the_journal_is_the_bytes_of_the_rows_applied(self):
        rows = stored(self.LENT)
        for k, left in ((0, 110), (1, 91), (19, 91), (20, 53), (110, 0)):
            self.assertEqual(stored(self.LENT + [crash(k)]), rows[:left])

    def test_what_was_kept_then(self):
        self.assertEqual(last(self.LENT + [crash(1), lease(15), class_of(5, 0), usage()], 3),
                         [[15, 5, 1, 10, 0], [-7], [1, 0, 0, 0, 9]])
        self.assertEqual(last(self.LENT + [crash(20), lease(15), usage(), *lend(6, 15)], 4),
                         [[-8], [0, 0, 0, 0, 10], [15, 10, 63], [1, 13]])
        self.assertEqual(last(self.LENT + [crash(110), usage(), subnet(), usage()], 3), [[-4], [0], [0, 0, 0, 0, 10]])

    def test_now_stays(self):
        for k in (0, 1, 50, 110):
            self.assertEqual(last(self.LENT + [tick(4), crash(k), tick(0)]), [7])

    def test_no_offers(self):
        calls = self.LENT + [discover(1, 6, 16), crash(0), offers(), request(6, 16), discover(1, 7, 16)]
        self.assertEqual(last(calls, 4), [[3, 110], [0], [-8], [16, 10, 63]])

    def test_refused_the_offers_stay(self):
        self.assertEqual(last(self.LENT + [discover(1, 6, 16), crash(111), offers()]), [1, 16, 6, 63])

    def test_room_is_there_again(self):
        calls = [begin(53 + 38), subnet(), *lend(5, 15), class_of(5, 1), crash(1), class_of(5, 1), journal()]
        self.assertEqual(ask(calls)[4:], [[-9], [1, 53], [0], [72, *SUBNET, *row(5, 0, 5, 1)]])

    def test_at_each_k_what_was_kept_once(self):
        """Promise 1: each cut gives what the first calls alone had made."""
        once = []
        for count in range(1, len(EVERYTHING) + 1):
            once.append((len(stored(EVERYTHING[:count])), EVERYTHING[:count]))
        total = once[-1][0]
        self.assertEqual(total, len(stored(EVERYTHING)))
        for k in range(total + 1):
            length, calls = [one for one in once if one[0] <= total - k][-1]
            with self.subTest(k=k):
                self.assertEqual(last(EVERYTHING + [crash(k)])[1], length)
                self.assertEqual(kept(EVERYTHING + [crash(k)]), kept(calls))

    def test_at_each_k_by_load_too(self):
        rows = stored(EVERYTHING)
        for k in range(0, len(rows) + 1):
            with self.subTest(k=k):
                given = last([begin(), load(rows[:len(rows) - k]), compact(), journal()], 3)
                self.assertEqual(given, last(EVERYTHING + [crash(k), compact(), journal()], 3))

    def test_numbers_may_come_again_when_they_are_lost(self):
        calls = [begin(), subnet(), *lend(5, 15), release(5, 15, 1), crash(24), renew(5, 15, 1), crash(76), *lend(6, 16)]
        self.assertEqual(last(calls, 5), [[2, 91], [1, 10], [1, 53], [16, 10, 60], [1, 10]])


class Compact(unittest.TestCase):
    def test_the_order_of_the_rows_and_their_time(self):
        self.assertEqual(last(EVERYTHING + [tick(30), compact(), journal()], 2),
                         [[len(COMPACTED)], [len(COMPACTED), *COMPACTED]])

    def test_the_count_alone(self):
        self.assertEqual(last([begin(), compact(), journal()], 2), [[20], [20, *row(13, 0, 0)]])
        self.assertEqual(last([begin(), tick(9), compact(), journal()]), [20, *row(13, 0, 0)])
        calls = [begin(), tick(4), class_of(5, 1), tick(1), class_of(5, 0), tick(9), compact(), journal()]
        self.assertEqual(last(calls, 2), [[20], [20, *row(13, 5, 0)]])

    def test_the_count_of_leases_whose_records_are_gone(self):
        calls = [begin(), subnet(), *lend(5, 15), tick(10), *lend(6, 15), compact(), journal()]
        self.assertEqual(last(calls)[1:], joined(row(1, 10, 1, 10, 19, 5, 10, 100, 7),
                                                 row(12, 10, 15, 6, 2, 20, 0), row(13, 10, 2)))
        calls = [begin(), load(joined(SUBNET, LEASE, row(13, 0, 77))), compact(), journal()]
        self.assertEqual(last(calls)[1:], joined(SUBNET, row(12, 0, 15, 5, 1, 10, 0), row(13, 0, 77)))

    def test_what_is_kept_stays(self):
        questions = [
            usage(1), usage(2), lease(10), lease(15), lease(16), leases(5), ending(), options(1, 5, [9, 8, 1]), tick(0), offers(),
            options(2, 7, [1, 9]), discover(1, 7), discover(1, 9), renew(5, 15, 1, 70), release(5, 31, 4), unreserve(11),
            class_of(5, 2), unoption(0, 0, 8), *lend(6, 14), tick(10), discover(1, 4),
        ]
        offered = EVERYTHING + [discover(1, 20), discover(2, 21)]
        plain = last(offered + questions, len(questions))
        self.assertEqual(last(offered + [compact()] + questions, len(questions)), plain)
        self.assertEqual(last(offered + [compact(), compact()] + questions, len(questions)), plain)
        read = [begin(), load(COMPACTED), discover(1, 20), discover(2, 21)]
        self.assertEqual(last(read + questions, len(questions)), plain)
        read = EVERYTHING + [compact(), crash(0), discover(1, 20), discover(2, 21)]
        self.assertEqual(last(read + questions, len(questions)), plain)

    def test_latest_stays(self):
        """Rows may be written at once, at the very time of the last row; and none of an earlier one is read back."""
        calls = [begin(), tick(9), class_of(5, 1), tick(1), compact(), class_of(6, 1), compact(), journal()]
        self.assertEqual(last(calls)[1:], joined(row(5, 10, 5, 1), row(5, 10, 6, 1), row(13, 10, 0)))
        compacted = joined(row(5, 9, 5, 1), row(13, 9, 0))
        self.assertEqual(last([begin(), load(compacted + row(5, 8, 6, 1))]), [2, 39])
        self.assertEqual(last([begin(), load(compacted + row(5, 9, 6, 1))]), [3, 58])

    def test_read_back_it_is_what_was_kept(self):
        rows = len(COMPACTED)
        self.assertEqual(last([begin(), load(COMPACTED), journal()], 2), [[22, rows], [rows, *COMPACTED]])
        self.assertEqual(kept([begin(), load(COMPACTED)]), COMPACTED)
        self.assertEqual(last(EVERYTHING + [compact(), crash(0), tick(0)], 2), [[22, rows], [9]])

    def test_cut_it_is_what_its_first_rows_make(self):
        calls = EVERYTHING + [compact()]
        self.assertEqual(last(calls + [crash(1), lease(31), lease(16)], 3),
                         [[21, len(COMPACTED) - 20], [31, 5, 4, 13, 0], [16, 6, 2, 7, 1]])
        self.assertEqual(last(calls + [crash(21), lease(31), lease(16)], 3),
                         [[20, len(COMPACTED) - 59], [-8], [16, 6, 2, 7, 1]])

    def test_rows_are_written_behind_it(self):
        calls = EVERYTHING + [compact(), tick(1), class_of(5, 0)]
        self.assertEqual(stored(calls), COMPACTED + row(5, 10, 5, 0))
        self.assertEqual(last(calls + [crash(0)]), [23, len(COMPACTED) + 19])

    def test_offers_stay(self):
        calls = [begin(), subnet(), discover(1, 5, 15), compact(), offers(), request(5, 15)]
        self.assertEqual(last(calls, 3), [[73], [1, 15, 5, 60], [1, 10]])

    def test_just_enough_room_and_a_byte_less(self):
        calls = [subnet(), class_of(5, 1)]
        self.assertEqual(last([begin(92), *calls, compact()]), [92])
        self.assertEqual(last([begin(91), *calls, compact(), journal()], 2), [[-9], [72, *SUBNET, *row(5, 0, 5, 1)]])
        lent = [subnet(), *lend(5, 15)]
        self.assertEqual(last([begin(53 + 39 + 20), *lent, compact()]), [112])
        self.assertEqual(last([begin(53 + 39 + 19), *lent, compact(), journal(), lease(15)], 3),
                         [[-9], [91, *SUBNET, *LEASE], [15, 5, 1, 10, 0]])

    def test_it_makes_room(self):
        calls = [begin(100), *[class_of(5, 1), class_of(5, 0)] * 2, class_of(5, 1)]
        self.assertEqual(last(calls + [class_of(5, 0), compact(), class_of(5, 0), journal()], 4),
                         [[-9], [39], [0], [58, *row(5, 0, 5, 1), *row(13, 0, 0), *row(5, 0, 5, 0)]])

    def test_twice(self):
        self.assertEqual(last(EVERYTHING + [compact(), compact(), journal()], 2),
                         [[len(COMPACTED)], [len(COMPACTED), *COMPACTED]])

    def test_no_number_comes_again(self):
        """Promise 3, with compact in between."""
        calls = [begin(), subnet(), *lend(5, 15), release(5, 15, 1), compact()]
        self.assertEqual(last(calls + [renew(5, 15, 1), release(5, 15, 1), decline(5, 15, 1), *lend(5, 15)], 5),
                         [[-8], [-8], [-8], [15, 10, 60], [2, 10]])

    def test_greatest_numbers(self):
        calls = [begin(), tick(TOP - 1), subnet(255, MOST_ADDRESS, MOST_ADDRESS, TOP, TOP, TOP, TOP)]
        calls += [class_of(MOST_CLIENT, 255), limit(255, 255, MOST_ADDRESS), option(3, MOST_CLIENT, 255, [255] * 64)]
        calls += [reserve(MOST_ADDRESS, MOST_CLIENT), *lend(MOST_CLIENT, MOST_ADDRESS, ident=255), compact(), journal()]
        late = TOP - 1
        self.assertEqual(last(calls)[1:], joined(
            row(1, late, 255, MOST_ADDRESS, MOST_ADDRESS, TOP, TOP, TOP, TOP), row(3, late, MOST_ADDRESS, MOST_CLIENT),
            row(5, late, MOST_CLIENT, 255), row(6, late, 255, 255, MOST_ADDRESS),
            row(7, late, 3, MOST_CLIENT, 255, value=[255] * 64), row(12, late, MOST_ADDRESS, MOST_CLIENT, 1, TOP, 0),
            row(13, late, 1),
        ))


if __name__ == "__main__":
    unittest.main()
