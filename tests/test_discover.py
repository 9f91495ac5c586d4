"""discover: which address is offered, and when none is."""

import unittest

from helper import (
    MOST_ADDRESS, MOST_CLIENT, TOP, ask, begin, class_of, discover, hole, last, lend, limit, request, reserve, subnet,
    tick, unreserve,
)


class Ordinary(unittest.TestCase):
    def test_address_length_and_time(self):
        self.assertEqual(last([begin(hold=60), tick(3), subnet(), discover(1, 5)]), [10, 10, 63])

    def test_lengths(self):
        for wanted, length in ((0, 10), (1, 5), (4, 5), (5, 5), (6, 6), (99, 99), (100, 100), (101, 100), (TOP, 100)):
            with self.subTest(wanted=wanted):
                self.assertEqual(last([begin(), subnet(), discover(1, 5, -1, wanted)]), [10, length, 60])

    def test_no_subnet(self):
        self.assertEqual(last([begin(), subnet(), discover(2, 5)]), [-4])

    def test_offers_are_till_the_end_of_time_at_most(self):
        calls = [begin(hold=60), subnet(), tick(TOP - 60), discover(1, 5), tick(1), discover(1, 6), tick(59)]
        calls += [discover(1, 7), request(7, 10), discover(1, 8)]
        self.assertEqual(
            last(calls, 7),
            [[10, 10, TOP], [TOP - 59], [11, 10, TOP], [TOP], [10, 10, TOP], [-8], [10, 10, TOP]],
        )

    def test_the_length_is_not_cut_at_the_end_of_time(self):
        self.assertEqual(last([begin(), subnet(most=TOP), tick(TOP - 1), discover(1, 5, -1, TOP)]), [10, TOP, TOP])

    def test_greatest_hold(self):
        self.assertEqual(last([begin(hold=2147483648), tick(1), subnet(), discover(1, 5)]), [10, 10, 2147483649])

    def test_greatest_addresses_and_clients(self):
        calls = [begin(), subnet(255, MOST_ADDRESS - 1, MOST_ADDRESS)]
        calls += [discover(255, MOST_CLIENT, MOST_ADDRESS), discover(255, 0, MOST_ADDRESS), discover(255, 1)]
        self.assertEqual(last(calls, 3), [[MOST_ADDRESS, 10, 60], [MOST_ADDRESS - 1, 10, 60], [-13]])


class Choices(unittest.TestCase):
    def offered(self, address, *calls):
        self.assertEqual(last([begin(hold=60), subnet(), *calls])[0], address)

    def test_1_reserved_ahead_of_wanted(self):
        self.offered(16, reserve(17, 5), reserve(16, 5), reserve(18, 5), discover(1, 5, 11))

    def test_1_reserved_ahead_of_an_own_record(self):
        self.offered(17, *lend(5, 12), tick(10), reserve(17, 5), discover(1, 5))

    def test_1_only_what_is_free(self):
        self.offered(17, reserve(16, 5), reserve(17, 5), hole(1, 16, 16), discover(1, 5))
        self.offered(10, reserve(16, 5), hole(1, 16, 16), discover(1, 5))
        self.offered(17, *lend(6, 16), reserve(16, 5), reserve(17, 5), discover(1, 5))
        self.offered(17, discover(1, 6, 16), reserve(16, 5), reserve(17, 5), discover(1, 5))

    def test_1_reserved_in_another_subnet(self):
        self.offered(10, subnet(2, 0, 9), reserve(4, 5), discover(1, 5))
        self.offered(4, subnet(2, 0, 9), reserve(4, 5), reserve(12, 5), discover(2, 5))

    def test_1_a_record_that_is_over(self):
        self.offered(16, *lend(6, 16), tick(10), reserve(16, 5), discover(1, 5))

    def test_2_wanted(self):
        for address in (10, 15, 19):
            self.offered(address, discover(1, 5, address))

    def test_2_wanted_ahead_of_an_own_record(self):
        self.offered(15, *lend(5, 12), tick(10), discover(1, 5, 15))

    def test_2_wanted_with_a_record_that_is_over(self):
        self.offered(15, *lend(6, 15), tick(10), discover(1, 5, 15))

    def test_2_wanted_but_not_free(self):
        self.offered(10, discover(1, 5, 9))
        self.offered(10, discover(1, 5, 20))
        self.offered(10, discover(1, 5, 0))
        self.offered(10, subnet(2, 20, 29), discover(1, 5, 25))
        self.offered(10, hole(1, 14, 16), discover(1, 5, 15))
        self.offered(10, reserve(15, 6), discover(1, 5, 15))
        self.offered(10, discover(1, 6, 15), discover(1, 5, 15))
        self.offered(10, *lend(6, 15), discover(1, 5, 15))
        self.offered(10, *lend(6, 15), tick(9), discover(1, 5, 15))

    def test_3_the_own_record_of_the_greatest_number(self):
        before = [*lend(5, 18), tick(10), *lend(5, 16), tick(10), *lend(5, 17), tick(10)]
        self.offered(17, *before, discover(1, 5))
        self.offered(16, *before, hole(1, 17, 17), discover(1, 5))
        self.offered(16, *before, reserve(17, 6), discover(1, 5))
        self.offered(16, *before, discover(1, 6, 17), discover(1, 5))
        self.offered(10, *before, discover(1, 6))

    def test_3_a_number_counts_more_than_an_end(self):
        before = [*lend(5, 18, length=100), tick(100), *lend(5, 16, length=5), tick(5)]
        self.offered(16, *before, discover(1, 5))
        early = [subnet(2, 30, 39), *lend(5, 35, ident=2), *lend(5, 12, length=100), tick(100), discover(1, 5)]
        self.offered(12, *early)

    def test_3_a_record_that_went_to_another(self):
        self.offered(10, *lend(5, 18), tick(10), *lend(6, 18), tick(10), discover(1, 5))

    def test_3_records_of_another_subnet(self):
        self.offered(10, subnet(2, 30, 39), *lend(5, 35, ident=2), tick(10), discover(1, 5))

    def test_4_the_least_address_without_a_record(self):
        before = [hole(1, 10, 11), reserve(12, 6), discover(1, 7, 13), *lend(8, 14)]
        self.offered(15, *before, discover(1, 5))
        self.offered(15, *before, tick(59), discover(1, 5))
        self.offered(13, *before, tick(60), discover(1, 5))
        self.offered(12, *before, unreserve(12), discover(1, 5))

    def test_4_holes_in_any_order(self):
        self.offered(15, hole(1, 12, 14), hole(1, 10, 12), discover(1, 5))
        self.offered(12, hole(1, 13, 14), hole(1, 10, 11), discover(1, 5))
        self.offered(19, hole(1, 10, 18), hole(1, 12, 13), discover(1, 5))
        self.offered(10, hole(1, 11, 19), discover(1, 5))

    def test_4_wide_holes_take_no_time(self):
        calls = [begin(), subnet(1, 0, MOST_ADDRESS)]
        calls += [hole(1, at * 2 ** 25, MOST_ADDRESS - 10 - at) for at in range(64)]
        self.assertEqual(last(calls + [discover(1, 5)]), [MOST_ADDRESS - 9, 10, 60])

    def test_5_the_least_end_then_the_least_address(self):
        before = [*lend(5, 16, length=20), *lend(6, 15, length=10), *lend(7, 14, length=20), *lend(8, 13, length=10)]
        full = [hole(1, 10, 12), hole(1, 17, 19)]
        self.offered(13, *before, *full, tick(20), discover(1, 9))
        self.offered(15, *before, *full, tick(20), discover(1, 9), discover(1, 10))
        self.offered(14, *before, *full, hole(1, 13, 13), reserve(15, 6), tick(20), discover(1, 9))
        self.offered(14, *before, *full, tick(20), *lend(5, 13), *lend(6, 15), discover(1, 9))

    def test_5_comes_behind_4(self):
        self.offered(19, *lend(5, 10), tick(10), hole(1, 11, 18), discover(1, 6))

    def test_no_address(self):
        calls = [begin(), subnet(1, 10, 13), hole(1, 10, 10), reserve(11, 6), *lend(7, 12), discover(1, 8)]
        self.assertEqual(last(calls + [discover(1, 9)], 2), [[13, 10, 60], [-13]])
        self.assertEqual(last(calls + [tick(9), discover(1, 9)]), [-13])
        self.assertEqual(last(calls + [tick(10), discover(1, 9)]), [12, 10, 70])
        self.assertEqual(last([begin(), subnet(), hole(1, 10, 19), discover(1, 5, 12)]), [-13])


class Records(unittest.TestCase):
    def test_as_many_as_records_allows(self):
        calls = [begin(records=2), subnet(), *lend(5, 15), *lend(6, 16)]
        self.assertEqual(last(calls, 3), [[1, 10], [16, 10, 60], [2, 10]])
        self.assertEqual(last(calls + [discover(1, 7), discover(1, 7, 18)], 2), [[-13], [-13]])
        self.assertEqual(last(calls + [reserve(18, 7), discover(1, 7)]), [-13])

    def test_records_that_are_over_are_lent_again(self):
        calls = [begin(records=2), subnet(), *lend(5, 15), *lend(6, 16), tick(10)]
        self.assertEqual(last(calls + [discover(1, 7)])[0], 15)
        self.assertEqual(last(calls + [discover(1, 7, 18)])[0], 15)
        self.assertEqual(last(calls + [discover(1, 7, 16)])[0], 16)
        self.assertEqual(last(calls + [discover(1, 6, 18)])[0], 16)
        self.assertEqual(last(calls + [reserve(18, 7), discover(1, 7)])[0], 15)

    def test_records_of_every_subnet_count(self):
        calls = [begin(records=1), subnet(), subnet(2, 20, 29), *lend(5, 15), tick(10), discover(2, 6)]
        self.assertEqual(last(calls), [-13])


class Offers(unittest.TestCase):
    def test_an_offer_stands_till_its_time(self):
        calls = [begin(hold=60), subnet(), discover(1, 5)]
        self.assertEqual(last(calls + [tick(59), discover(1, 6)])[0], 11)
        self.assertEqual(last(calls + [tick(60), discover(1, 6)])[0], 10)

    def test_the_own_offer_does_not_hinder(self):
        calls = [begin(), subnet(1, 10, 10), discover(1, 5), tick(1), discover(1, 5), tick(59), request(5, 10)]
        self.assertEqual(last(calls, 5), [[10, 10, 60], [1], [10, 10, 61], [60], [1, 70]])

    def test_the_own_offer_of_the_subnet_is_gone(self):
        calls = [begin(), subnet(), discover(1, 5, 12), discover(1, 5, 13), request(5, 12), discover(1, 6, 12)]
        self.assertEqual(last(calls, 3), [[13, 10, 60], [-8], [12, 10, 60]])

    def test_own_offers_of_other_subnets_stay(self):
        calls = [begin(), subnet(), subnet(2, 20, 29), discover(1, 5), discover(2, 5), request(5, 10), request(5, 20)]
        self.assertEqual(last(calls, 2), [[1, 10], [2, 10]])

    def test_others_offers_stay(self):
        calls = [begin(), subnet(), discover(1, 5), discover(1, 6), request(5, 10), request(6, 11)]
        self.assertEqual(last(calls, 2), [[1, 10], [2, 10]])

    def test_an_offer_to_another_takes_the_place_of_one_that_does_not_stand(self):
        calls = [begin(), subnet(1, 10, 10), discover(1, 5), tick(60), discover(1, 6), request(5, 10), request(6, 10)]
        self.assertEqual(last(calls, 3), [[10, 10, 120], [-8], [1, 70]])

    def test_refused_the_own_offer_stays(self):
        calls = [begin(), subnet(), discover(1, 5, 12), limit(1, 0, 0), discover(1, 5, 13), limit(1, 0, 9)]
        self.assertEqual(last(calls + [request(5, 12)], 3), [[-11], [0], [1, 10]])
        calls = [begin(), subnet(), discover(1, 5, 12), hole(1, 10, 19), discover(1, 5, 13), discover(1, 6)]
        self.assertEqual(last(calls, 2), [[-13], [-13]])

    def test_256_of_them(self):
        calls = [begin(hold=60), subnet(1, 0, 999), subnet(2, 1000, 1999)]
        calls += [discover(1, client) for client in range(256)]
        self.assertEqual(last(calls), [255, 10, 60])
        self.assertEqual(last(calls + [discover(1, 256), discover(1, 256, 900)], 2), [[-5], [-5]])
        self.assertEqual(last(calls + [discover(1, 255, 900)]), [900, 10, 60])
        self.assertEqual(last(calls + [discover(2, 255)]), [-5])
        self.assertEqual(last(calls + [request(7, 7), discover(1, 256)]), [256, 10, 60])
        self.assertEqual(last(calls + [tick(59), discover(1, 256)]), [-5])
        self.assertEqual(last(calls + [tick(60), discover(1, 256)]), [0, 10, 120])

    def test_256_of_them_and_other_refusals(self):
        calls = [begin(hold=60), subnet(1, 0, 255), subnet(2, 1000, 1000), *lend(300, 1000, ident=2)]
        calls += [discover(1, client) for client in range(256)]
        self.assertEqual(last(calls + [discover(1, 256)]), [-5])
        self.assertEqual(last(calls + [discover(3, 256)]), [-4])
        self.assertEqual(last(calls + [limit(1, 0, 0), discover(1, 256)]), [-11])
        self.assertEqual(last(calls + [discover(2, 300)]), [1000, 10, 0])
        self.assertEqual(last(calls + [hole(2, 1000, 1000), discover(2, 300)]), [-12])


class StandingLease(unittest.TestCase):
    def test_its_address_is_told(self):
        calls = [begin(), subnet(), *lend(5, 15), tick(9)]
        self.assertEqual(last(calls + [discover(1, 5)]), [15, 10, 0])
        self.assertEqual(last(calls + [discover(1, 5, 12, 70)]), [15, 70, 0])
        self.assertEqual(last(calls + [discover(1, 5, 12, 1)]), [15, 5, 0])
        self.assertEqual(last(calls + [reserve(15, 5), reserve(12, 5), discover(1, 5)]), [15, 10, 0])

    def test_nothing_changes(self):
        calls = [begin(), subnet(), *lend(5, 15), discover(1, 5, 12), request(5, 12), discover(1, 6, 12)]
        self.assertEqual(last(calls, 3), [[15, 10, 0], [-12], [12, 10, 60]])

    def test_over_it_stands_no_more(self):
        calls = [begin(), subnet(), *lend(5, 15), tick(10), discover(1, 5)]
        self.assertEqual(last(calls), [15, 10, 70])

    def test_one_in_another_subnet(self):
        calls = [begin(), subnet(), subnet(2, 20, 29), *lend(5, 25, ident=2), discover(1, 5)]
        self.assertEqual(last(calls), [10, 10, 60])

    def test_it_may_not_go_there_any_more(self):
        calls = [begin(), subnet(), *lend(5, 15)]
        self.assertEqual(last(calls + [hole(1, 15, 15), discover(1, 5)]), [-12])
        self.assertEqual(last(calls + [reserve(15, 6), discover(1, 5)]), [-12])
        self.assertEqual(last(calls + [reserve(15, 6), unreserve(15), discover(1, 5)]), [15, 10, 0])
        self.assertEqual(last(calls + [reserve(15, 6), tick(10), discover(1, 5)]), [10, 10, 70])

    def test_ahead_of_a_full_class(self):
        calls = [begin(), subnet(), *lend(5, 15), limit(1, 0, 0)]
        self.assertEqual(last(calls + [discover(1, 5)]), [15, 10, 0])
        self.assertEqual(last(calls + [hole(1, 15, 15), discover(1, 5)]), [-12])


class FullClass(unittest.TestCase):
    def test_as_many_leases_as_the_limit(self):
        calls = [begin(), subnet(), limit(1, 0, 2), *lend(5, 15), discover(1, 6), discover(1, 7), request(6, 10)]
        self.assertEqual(last(calls + [discover(1, 8)], 3), [[11, 10, 60], [2, 10], [-11]])
        self.assertEqual(last(calls + [limit(1, 0, 3), discover(1, 8)]), [12, 10, 60])
        self.assertEqual(last(calls + [limit(1, 0, 1), discover(1, 8)]), [-11])
        self.assertEqual(last(calls + [tick(10), discover(1, 8)]), [12, 10, 70])

    def test_a_limit_of_0(self):
        self.assertEqual(last([begin(), subnet(), limit(1, 0, 0), discover(1, 5)]), [-11])

    def test_of_this_class_in_this_subnet(self):
        calls = [begin(), subnet(), subnet(2, 20, 29), class_of(5, 3), limit(1, 3, 1), *lend(5, 15), class_of(6, 3)]
        self.assertEqual(last(calls + [discover(1, 6)]), [-11])
        self.assertEqual(last(calls + [discover(2, 6)]), [20, 10, 60])
        self.assertEqual(last(calls + [discover(1, 7)]), [10, 10, 60])
        self.assertEqual(last(calls + [class_of(6, 4), discover(1, 6)]), [10, 10, 60])

    def test_leases_of_another_subnet_do_not_count(self):
        calls = [begin(), subnet(), subnet(2, 20, 29), limit(1, 0, 1), *lend(5, 25, ident=2), discover(1, 6)]
        self.assertEqual(last(calls), [10, 10, 60])

    def test_the_class_that_a_client_has_now(self):
        calls = [begin(), subnet(), class_of(5, 3), limit(1, 3, 1), *lend(5, 15), class_of(6, 3)]
        self.assertEqual(last(calls + [class_of(5, 0), discover(1, 6)]), [10, 10, 60])
        self.assertEqual(last(calls + [limit(1, 0, 1), class_of(5, 0), discover(1, 7)]), [-11])

    def test_offers_do_not_count(self):
        calls = [begin(), subnet(), limit(1, 0, 1), discover(1, 5), discover(1, 6)]
        self.assertEqual(last(calls), [11, 10, 60])

    def test_ahead_of_no_address(self):
        calls = [begin(), subnet(1, 10, 10), hole(1, 10, 10), discover(1, 5), limit(1, 0, 0), discover(1, 5)]
        self.assertEqual(last(calls, 3), [[-13], [0], [-11]])


class NoJournal(unittest.TestCase):
    def test_a_full_journal_does_not_hinder(self):
        self.assertEqual(ask([begin(64), subnet(), hole(1, 12, 12), discover(1, 5)]), [[0], [0], [-9], [10, 10, 60]])


if __name__ == "__main__":
    unittest.main()
