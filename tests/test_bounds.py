"""Lists near the interface's bounds: 400 calls, 16000 numbers, and answers of many numbers."""

import unittest

from helper import (
    MOST_ADDRESS, TOP, ask, begin, class_of, compact, crash, discover, ending, joined, journal, last, leases, lend,
    limit, load, offers, option, options, reserve, row, subnet, tick, unoption, unreserve, usage,
)
from lentstretch.server import answers

WIDE = row(1, 0, 1, 0, 2000, 5, 10, TOP, 7)


def laid(calls):
    return [number for call in calls for number in call]


class Bounds(unittest.TestCase):
    def fits(self, calls):
        """Within the bounds; and the list that is handed in stays."""
        flat = laid(calls)
        self.assertLessEqual(len(calls), 400)
        self.assertLessEqual(len(flat), 16000)
        before = list(flat)
        given = answers(flat)
        self.assertEqual(flat, before)
        self.assertLess(len(given), 1000000)
        return given

    def test_one_call(self):
        self.assertEqual(answers([23]), [1, -1])
        self.assertEqual(answers([0, 64, 1, 1]), [1, 0])

    def test_400_calls(self):
        calls = [begin(), subnet(1, 0, 500)] + laid([lend(client, client) for client in range(199)])
        self.assertEqual(len(calls), 400)
        given = self.fits(calls)
        self.assertEqual(given[-7:], [3, 198, 10, 60, 2, 199, 10])

    def test_many_records_read_back_again_and_again(self):
        records = [row(12, 0, address, 5 + address % 7, 1000 - address, address % 2, 2) for address in range(380)]
        stored = joined(WIDE, *records)
        self.assertLess(len(stored), 15000)
        given = self.fits([begin(), load(stored)] + [crash(0)] * 397 + [usage()])
        self.assertEqual(given[2:5], [2, 381, len(stored)])
        self.assertEqual(given[-9:], [2, 381, len(stored), 5, 0, 190, 190, 0, 1811])

    def test_many_leases_of_one_client_read_back_again_and_again(self):
        stored = joined(WIDE, *[row(9, at, at, 5, at + 1, at + 1) for at in range(380)])
        given = self.fits([begin(), load(stored)] + [crash(0)] * 398)
        self.assertEqual(given[-3:], [2, 381, len(stored)])

    def test_many_records_compacted_again_and_again(self):
        stored = joined(WIDE, *[row(12, 0, address, address, 380 - address, 50, 0) for address in range(380)])
        given = self.fits([begin(), load(stored)] + [compact()] * 397 + [crash(0)])
        self.assertEqual(given[-5:], [1, len(stored) + 20, 2, 382, len(stored) + 20])

    def test_many_classes_read_back_again_and_again(self):
        stored = joined(*[row(5, 0, client, 1) for client in range(789)])
        given = self.fits([begin(), load(stored)] + [crash(0)] * 398)
        self.assertEqual(given[-3:], [2, 789, len(stored)])

    def test_16000_numbers(self):
        stored = joined(*[row(7, 0, 3, who, 9, value=[7] * 64) for who in range(170)])
        calls = [begin(), load(stored), subnet()] + [option(3, who, 8, [9] * 64) for who in range(22)]
        calls += [options(1, 5, [9])] * 5
        left = 16000 - len(laid(calls))
        self.assertGreaterEqual(left, 0)
        calls += [tick(1)] * min(left // 2, 400 - len(calls))
        self.assertEqual(self.fits(calls)[:5], [1, 0, 2, 170, 170 * 84])

    def test_answers_of_many_numbers(self):
        calls = [begin(), subnet(), option(0, 0, 9, range(64))] + [options(1, 5, [9] * 64)] * 60
        self.assertEqual(self.fits(calls)[6:6 + 5], [64 * 66, 1, 64, 0, 1])
        stored = joined(WIDE, *[row(12, 0, address, 5, address + 1, 50, 2) for address in range(380)])
        calls = [begin(), load(stored)] + [leases(5)] * 30 + [offers()] * 30 + [journal()] * 8 + [ending()] * 50
        given = ask(calls)
        self.assertEqual([len(given[2]), given[2][:11]], [1 + 380 * 5, [380, 0, 5, 1, 50, 2, 1, 5, 2, 50, 2]])
        self.assertEqual(given[-51], [len(stored), *stored])
        self.fits(calls)

    def test_many_discoveries_in_a_subnet_full_of_holes(self):
        holes = [row(2, 0, 1, at * 20, at * 20 + 18) for at in range(64)]
        records = [row(12, 0, address, 5, address + 1, 0, 0) for address in range(300)]
        stored = joined(row(1, 0, 1, 0, MOST_ADDRESS, 5, 10, TOP, 7), *holes, *records)
        calls = [begin(), load(stored)] + [discover(1, client) for client in range(100)] + [usage()] * 100
        given = self.fits(calls)
        self.assertEqual(given[5:9], [3, 319, 10, 60])
        self.assertEqual(last(calls), [0, 0, 300, 100, 2 ** 32 - 64 * 19 - 100])

    def fills_up(self, stored, calls, one_more, one_less):
        """1024 of a thing, some loaded, the others by calls: there's no room for one more till there is one less."""
        calls = [begin(), load(stored), *calls, one_more, crash(0), one_more, one_less, one_more, one_more]
        self.fits(calls)
        given = ask(calls)
        self.assertEqual(given[2:-6], [[0]] * len(given[2:-6]))
        self.assertEqual([given[-6], given[-4], given[-3], given[-2]], [[-5], [-5], [0], [0]])
        self.assertEqual(given[-5][0], given[1][0] + len(given[2:-6]))
        return given[-1]

    def test_1024_reservations(self):
        stored = joined(WIDE, *[row(3, 0, address, 5) for address in range(640)])
        calls = [reserve(address, 5) for address in range(640, 1024)]
        self.assertEqual(self.fills_up(stored, calls, reserve(1024, 5), unreserve(9)), [-7])

    def test_1024_classes(self):
        stored = joined(*[row(5, 0, client, 1) for client in range(700)])
        calls = [class_of(client, 2) for client in range(700, 1024)]
        self.assertEqual(self.fills_up(stored, calls, class_of(1024, 3), class_of(9, 0)), [-7])

    def test_1024_options(self):
        stored = joined(*[row(7, 0, 3, who, 9) for who in range(680)])
        calls = [option(3, who, 9) for who in range(680, 1024)]
        self.assertEqual(self.fills_up(stored, calls, option(0, 0, 9), unoption(3, 9, 9)), [0])

    def test_1024_limits(self):
        """A limit can't be taken away: it can only be told anew."""
        subnets = [row(1, 0, ident, ident, ident, 1, 1, 1, 1) for ident in range(5)]
        pairs = [(ident, cls) for ident in range(4) for cls in range(256)]
        stored = joined(*subnets, *[row(6, 0, ident, cls, 7) for ident, cls in pairs[:750]])
        calls = [begin(), load(stored)] + [limit(ident, cls, 7) for ident, cls in pairs[750:]]
        calls += [limit(4, 0, 7), crash(0), limit(4, 0, 7), limit(3, 255, 8)]
        self.fits(calls)
        self.assertEqual(ask(calls)[2:], [[0]] * 274 + [[-5], [5 + 1024, 5 * 53 + 1024 * 18], [-5], [0]])

    def test_the_last_row_of_a_full_journal(self):
        stored = joined(*[row(5, 0, client, 1) for client in range(789)])
        calls = [begin(len(stored)), load(stored), class_of(999, 1), compact(), crash(1), class_of(999, 1), compact()]
        self.assertEqual(last(calls, 5), [[-9], [-9], [788, 788 * 19], [0], [-9]])


if __name__ == "__main__":
    unittest.main()
