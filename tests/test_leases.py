"""request and renew."""

import unittest

from helper import (
    MOST_ADDRESS, TOP, ask, begin, class_of, discover, hole, joined, last, lend, limit, load, release, renew, request,
    reserve, row, subnet, tick, unreserve,
)

# The length wanted and the length lent, in a subnet of 5, 10 and 100.
LENGTHS = ((0, 10), (1, 5), (4, 5), (5, 5), (6, 6), (99, 99), (100, 100), (101, 100), (TOP, 100))


class Request(unittest.TestCase):
    def test_number_and_end(self):
        calls = [begin(), tick(3), subnet(), *lend(5, 15), tick(1), *lend(6, 16), *lend(7, 17)]
        self.assertEqual(ask(calls)[3:], [[15, 10, 63], [1, 13], [4], [16, 10, 64], [2, 14], [17, 10, 64], [3, 14]])

    def test_lengths(self):
        for wanted, length in LENGTHS:
            with self.subTest(wanted=wanted):
                self.assertEqual(last([begin(), tick(3), subnet(), *lend(5, 15, length=wanted)]), [1, 3 + length])

    def test_the_length_told_to_discover_does_not_count(self):
        self.assertEqual(last([begin(), subnet(), discover(1, 5, 15, 70), request(5, 15)]), [1, 10])

    def test_ends_are_cut_at_the_end_of_time(self):
        calls = [begin(), subnet(1, 10, 19, 1, 10, TOP)]
        self.assertEqual(last(calls + lend(5, 15, length=TOP)), [1, TOP])
        self.assertEqual(last(calls + [tick(1)] + lend(5, 15, length=TOP)), [1, TOP])
        self.assertEqual(last(calls + [tick(TOP - 10)] + lend(5, 15)), [1, TOP])
        self.assertEqual(last(calls + [tick(TOP - 11)] + lend(5, 15)), [1, TOP - 1])
        self.assertEqual(last(calls + [tick(TOP - 1)] + lend(5, 15)), [1, TOP])
        self.assertEqual(last(calls + [tick(TOP)] + lend(5, 15)), [-8])

    def test_the_offer_is_gone_afterwards(self):
        calls = [begin(hold=1000), subnet(), *lend(5, 15, length=5), tick(5), request(5, 15)]
        self.assertEqual(last(calls), [-8])
        self.assertEqual(last(calls + [discover(1, 6, 15)]), [15, 10, 1005])

    def test_in_no_subnet(self):
        for address in (9, 20, 0, MOST_ADDRESS):
            self.assertEqual(last([begin(), subnet(), discover(1, 5), request(5, address)]), [-4])

    def test_without_an_offer(self):
        calls = [begin(hold=60), subnet(), discover(1, 5, 15)]
        self.assertEqual(last(calls + [request(5, 16)]), [-8])
        self.assertEqual(last(calls + [request(6, 15)]), [-8])
        self.assertEqual(last(calls + [tick(59), request(5, 15)]), [1, 69])
        self.assertEqual(last(calls + [tick(60), request(5, 15)]), [-8])

    def test_not_free_any_more(self):
        calls = [begin(records=1), subnet(), discover(1, 5, 15)]
        self.assertEqual(last(calls + [hole(1, 15, 15), request(5, 15)]), [-10])
        self.assertEqual(last(calls + [reserve(15, 6), request(5, 15)]), [-10])
        self.assertEqual(last(calls + [reserve(15, 5), request(5, 15)]), [1, 10])
        self.assertEqual(last(calls + [reserve(15, 6), unreserve(15), request(5, 15)]), [1, 10])
        self.assertEqual(last(calls + [*lend(6, 16), request(5, 15)]), [-10])

    def test_a_full_class(self):
        calls = [begin(), subnet(), class_of(5, 3), class_of(6, 3), limit(1, 3, 1), discover(1, 5, 15), *lend(6, 16)]
        self.assertEqual(last(calls + [request(5, 15)]), [-11])
        self.assertEqual(last(calls + [class_of(5, 0), request(5, 15)]), [2, 10])
        self.assertEqual(last(calls + [tick(10), request(5, 15)]), [2, 20])

    def test_order_of_refusals(self):
        calls = [begin(hold=60), subnet(), discover(1, 5, 15), hole(1, 15, 15), limit(1, 0, 0)]
        self.assertEqual(last(calls + [request(5, 15)]), [-10])
        self.assertEqual(last(calls + [request(6, 15)]), [-8])
        self.assertEqual(last(calls + [tick(60), request(5, 15)]), [-8])

    def test_a_lease_of_another_address_stands(self):
        calls = [begin(), subnet(), *lend(5, 15), tick(9)]
        self.assertEqual(last(calls + [request(5, 16)]), [-12])
        self.assertEqual(last(calls + [limit(1, 0, 0), hole(1, 16, 16), request(5, 16)]), [-12])
        self.assertEqual(last(calls + [tick(1), request(5, 16)]), [-8])

    def test_a_lease_in_another_subnet_does_not_hinder(self):
        calls = [begin(), subnet(), subnet(2, 20, 29), *lend(5, 15), *lend(5, 25, ident=2)]
        self.assertEqual(last(calls), [2, 10])

    def test_numbers_go_on_when_an_address_is_lent_again(self):
        calls = [begin(), subnet(1, 10, 10), *lend(5, 10), tick(10), *lend(6, 10), tick(10), *lend(5, 10)]
        self.assertEqual(ask(calls)[2:], [[10, 10, 60], [1, 10], [10], [10, 10, 70], [2, 20], [20], [10, 10, 80], [3, 30]])


class GreatestNumber(unittest.TestCase):
    def lent(self, count, room, *calls):
        """What a request answers when count has come this far, which a row tells that is loaded."""
        loaded = load(joined(row(1, 0, 1, 10, 19, 5, 10, 100, 7), row(13, 0, count)))
        return last([begin(room), loaded, discover(1, 5, 15), *calls, request(5, 15)])

    def test_the_last_number_and_none_behind_it(self):
        self.assertEqual(self.lent(TOP - 2, 1000), [TOP - 1, 10])
        self.assertEqual(self.lent(TOP - 1, 1000), [TOP, 10])
        self.assertEqual(self.lent(TOP, 1000), [-5])

    def test_a_lease_of_the_last_number(self):
        self.assertEqual(self.lent(TOP - 1, 1000, request(5, 15), tick(3), renew(5, 15, TOP)), [TOP, 13])
        self.assertEqual(self.lent(TOP - 1, 1000, request(5, 15), release(5, 15, TOP), discover(1, 5, 15)), [-5])

    def test_order_of_refusals(self):
        self.assertEqual(self.lent(TOP, 1000, limit(1, 0, 0)), [-11])
        self.assertEqual(self.lent(TOP, 73), [-5])
        self.assertEqual(self.lent(TOP - 1, 73), [-9])


class RequestThatRenews(unittest.TestCase):
    def test_number_and_end(self):
        calls = [begin(), subnet(), *lend(5, 15), tick(4), request(5, 15)]
        self.assertEqual(last(calls), [1, 14])

    def test_lengths(self):
        for wanted, length in LENGTHS:
            with self.subTest(wanted=wanted):
                calls = [begin(), subnet(), *lend(5, 15), tick(9), request(5, 15, wanted)]
                self.assertEqual(last(calls), [1, 9 + length])

    def test_the_end_is_never_earlier(self):
        self.assertEqual(last([begin(), subnet(), *lend(5, 15, length=50), tick(4), request(5, 15, 5)]), [1, 50])

    def test_it_needs_no_offer_and_no_class(self):
        calls = [begin(records=1), subnet(), *lend(5, 15), limit(1, 0, 0), tick(4), request(5, 15)]
        self.assertEqual(last(calls), [1, 14])

    def test_it_may_not_go_there_any_more(self):
        calls = [begin(), subnet(), *lend(5, 15)]
        self.assertEqual(last(calls + [hole(1, 15, 15), request(5, 15)]), [-10])
        self.assertEqual(last(calls + [reserve(15, 6), request(5, 15)]), [-10])

    def test_count_stays(self):
        self.assertEqual(last([begin(), subnet(), *lend(5, 15), request(5, 15), *lend(6, 16)]), [2, 10])


class Renew(unittest.TestCase):
    def test_number_and_end(self):
        calls = [begin(), subnet(), *lend(4, 14), *lend(5, 15), tick(4), renew(5, 15, 2)]
        self.assertEqual(last(calls), [2, 14])

    def test_lengths(self):
        for wanted, length in LENGTHS:
            with self.subTest(wanted=wanted):
                self.assertEqual(last([begin(), subnet(), *lend(5, 15), tick(9), renew(5, 15, 1, wanted)]), [1, 9 + length])

    def test_the_end_is_never_earlier(self):
        calls = [begin(), subnet(), *lend(5, 15, length=50), tick(4), renew(5, 15, 1, 5)]
        self.assertEqual(last(calls), [1, 50])
        self.assertEqual(last(calls + [renew(5, 15, 1, 46)]), [1, 50])
        self.assertEqual(last(calls + [renew(5, 15, 1, 47)]), [1, 51])
        self.assertEqual(last(calls + [tick(45), renew(5, 15, 1, 5), tick(4), renew(5, 15, 1, 5), tick(5), renew(5, 15, 1)], 5),
                         [[1, 54], [53], [1, 58], [58], [-8]])

    def test_ends_are_cut_at_the_end_of_time(self):
        calls = [begin(), subnet(1, 10, 19, 1, 10, TOP), *lend(5, 15), tick(1)]
        self.assertEqual(last(calls + [renew(5, 15, 1, TOP)]), [1, TOP])
        self.assertEqual(last(calls + [renew(5, 15, 1, TOP - 1)]), [1, TOP])
        self.assertEqual(last(calls + [renew(5, 15, 1, TOP - 2)]), [1, TOP - 1])
        late = calls + [renew(5, 15, 1, TOP), tick(TOP - 2), renew(5, 15, 1, TOP), tick(1), renew(5, 15, 1)]
        self.assertEqual(last(late, 4), [[TOP - 1], [1, TOP], [TOP], [-8]])

    def test_what_it_was_renewed_to_counts(self):
        calls = [begin(), subnet(1, 15, 15), *lend(5, 15), tick(9), renew(5, 15, 1, 100), tick(99)]
        self.assertEqual(last(calls + [discover(1, 6)]), [-13])
        self.assertEqual(last(calls + [renew(5, 15, 1)]), [1, 118])
        self.assertEqual(last(calls + [tick(1), renew(5, 15, 1)]), [-8])

    def test_not_this_lease(self):
        calls = [begin(), subnet(), *lend(5, 15), *lend(6, 16), tick(9)]
        for call in (
            renew(5, 15, 2), renew(5, 15, 0), renew(5, 15, TOP), renew(6, 15, 1), renew(5, 16, 1), renew(5, 16, 2),
            renew(5, 17, 1), renew(5, 0, 1), renew(5, 40, 0),
        ):
            with self.subTest(call=call):
                self.assertEqual(last(calls + [call]), [-8])

    def test_over(self):
        calls = [begin(), subnet(), *lend(5, 15)]
        self.assertEqual(last(calls + [tick(9), renew(5, 15, 1)]), [1, 19])
        self.assertEqual(last(calls + [tick(10), renew(5, 15, 1)]), [-8])

    def test_it_may_not_go_there_any_more(self):
        calls = [begin(), subnet(), *lend(5, 15)]
        self.assertEqual(last(calls + [hole(1, 14, 16), renew(5, 15, 1)]), [-10])
        self.assertEqual(last(calls + [reserve(15, 6), renew(5, 15, 1)]), [-10])
        self.assertEqual(last(calls + [reserve(15, 5), renew(5, 15, 1)]), [1, 10])
        self.assertEqual(last(calls + [hole(1, 14, 14), reserve(16, 6), renew(5, 15, 1)]), [1, 10])

    def test_order_of_refusals(self):
        calls = [begin(), subnet(), *lend(5, 15), hole(1, 10, 19)]
        self.assertEqual(last(calls + [renew(5, 15, 2)]), [-8])
        self.assertEqual(last(calls + [tick(10), renew(5, 15, 1)]), [-8])

    def test_a_full_class_does_not_hinder(self):
        self.assertEqual(last([begin(), subnet(), *lend(5, 15), limit(1, 0, 0), tick(1), renew(5, 15, 1)]), [1, 11])

    def test_it_counts_no_number(self):
        self.assertEqual(last([begin(), subnet(), *lend(5, 15), renew(5, 15, 1), *lend(6, 16)]), [2, 10])

    def test_an_older_number_of_the_same_client_and_address(self):
        calls = [begin(), subnet(), *lend(5, 15), tick(10), *lend(5, 15)]
        self.assertEqual(last(calls + [renew(5, 15, 1)]), [-8])
        self.assertEqual(last(calls + [renew(5, 15, 2)]), [2, 20])


class LentInAHole(unittest.TestCase):
    def test_it_stays_lent_till_its_end(self):
        calls = [begin(), subnet(), limit(1, 0, 1), *lend(5, 15), hole(1, 15, 15)]
        self.assertEqual(last(calls + [tick(9), discover(1, 6)]), [-11])
        self.assertEqual(last(calls + [tick(9), discover(1, 5)]), [-12])
        self.assertEqual(last(calls + [tick(10), discover(1, 6, 15)]), [10, 10, 70])


if __name__ == "__main__":
    unittest.main()
