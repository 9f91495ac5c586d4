"""release and decline, and the address behind both."""

import unittest

from helper import (
    MOST_ADDRESS, MOST_CLIENT, TOP, ask, begin, class_of, compact, decline, discover, hole, last, lease, lend, limit,
    release, renew, request, reserve, subnet, tick, usage,
)

LENT = [begin(), subnet(), *lend(5, 15), *lend(6, 16), tick(4)]


class Release(unittest.TestCase):
    def test_answers_0_and_the_record_is_given_back(self):
        self.assertEqual(last(LENT + [release(5, 15, 1), lease(15), lease(16)], 3),
                         [[0], [15, 5, 1, 4, 1], [16, 6, 2, 10, 0]])

    def test_at_once_and_at_the_last_moment(self):
        self.assertEqual(last([begin(), subnet(), *lend(5, 15), release(5, 15, 1), lease(15)], 2), [[0], [15, 5, 1, 0, 1]])
        self.assertEqual(last(LENT + [tick(5), release(5, 15, 1), lease(15)], 2), [[0], [15, 5, 1, 9, 1]])
        self.assertEqual(last(LENT + [tick(6), release(5, 15, 1), lease(15)], 2), [[-8], [15, 5, 1, 10, 0]])

    def test_not_this_lease(self):
        for call in (
            release(6, 15, 1), release(5, 15, 2), release(5, 15, 0), release(5, 15, TOP), release(5, 16, 1),
            release(5, 16, 2), release(5, 17, 1), release(5, 9, 1), release(5, 0, 0), release(0, MOST_ADDRESS, 0),
        ):
            with self.subTest(call=call):
                self.assertEqual(last(LENT + [call, lease(15), lease(16)], 3),
                                 [[-8], [15, 5, 1, 10, 0], [16, 6, 2, 10, 0]])

    def test_then_its_number_does_nothing_any_more(self):
        gone = LENT + [release(5, 15, 1)]
        for call in (renew(5, 15, 1), release(5, 15, 1), decline(5, 15, 1)):
            self.assertEqual(last(gone + [call, lease(15)], 2), [[-8], [15, 5, 1, 4, 1]])
        again = gone + lend(5, 15)
        self.assertEqual(last(again), [3, 14])
        for call in (renew(5, 15, 1), release(5, 15, 1), decline(5, 15, 1)):
            self.assertEqual(last(again + [call, lease(15)], 2), [[-8], [15, 5, 3, 14, 0]])
        self.assertEqual(last(again + [release(5, 15, 3), lease(15)], 2), [[0], [15, 5, 3, 4, 1]])

    def test_it_may_be_given_back_where_it_may_not_go_any_more(self):
        self.assertEqual(last(LENT + [hole(1, 15, 15), release(5, 15, 1)]), [0])
        self.assertEqual(last(LENT + [reserve(15, 6), release(5, 15, 1)]), [0])

    def test_the_address_is_free_at_once(self):
        gone = LENT + [release(5, 15, 1)]
        self.assertEqual(last(gone + [discover(1, 7, 15)]), [15, 10, 64])
        self.assertEqual(last(gone + [*lend(7, 15), lease(15)], 2), [[3, 14], [15, 7, 3, 14, 0]])
        self.assertEqual(last(gone + [discover(1, 5)]), [15, 10, 64])
        self.assertEqual(last(gone + [discover(1, 7)]), [10, 10, 64])
        self.assertEqual(last(LENT + [discover(1, 7, 15)]), [10, 10, 64])

    def test_without_an_offer_there_is_no_new_lease(self):
        self.assertEqual(last(LENT + [release(5, 15, 1), request(5, 15)]), [-8])

    def test_the_client_has_no_standing_lease_any_more(self):
        self.assertEqual(last(LENT + [release(5, 15, 1), discover(1, 5, 12), request(5, 12)], 2), [[12, 10, 64], [3, 14]])
        self.assertEqual(last(LENT + [discover(1, 5, 12), request(5, 12)], 2), [[15, 10, 0], [-12]])

    def test_its_class_is_not_full_any_more(self):
        full = LENT + [class_of(5, 2), class_of(7, 2), limit(1, 2, 1)]
        self.assertEqual(last(full + [discover(1, 7)]), [-11])
        self.assertEqual(last(full + [release(5, 15, 1), discover(1, 7)]), [10, 10, 64])

    def test_the_record_stays_a_record(self):
        calls = [begin(records=1), subnet(), *lend(5, 15), tick(4), release(5, 15, 1)]
        self.assertEqual(last(calls + [discover(1, 7, 12)]), [15, 10, 64])
        self.assertEqual(last(calls + [hole(1, 15, 15), discover(1, 7, 12)]), [-13])

    def test_given_back_it_was_over_when_it_was_given_back(self):
        """The one that was given back comes first: its end is the time of that, not the end it would have had."""
        calls = [begin(), subnet(1, 15, 16), *lend(5, 15, length=50), *lend(6, 16, length=8), tick(7)]
        self.assertEqual(last(calls + [release(5, 15, 1), tick(10), discover(1, 7)]), [15, 10, 77])
        self.assertEqual(last(calls + [tick(2), release(5, 15, 1), tick(10), discover(1, 7)]), [16, 10, 79])

    def test_greatest_numbers(self):
        calls = [begin(), subnet(1, MOST_ADDRESS, MOST_ADDRESS, 1, 1, TOP), *lend(MOST_CLIENT, MOST_ADDRESS, length=TOP)]
        calls += [tick(TOP - 1), release(MOST_CLIENT, MOST_ADDRESS, 1), lease(MOST_ADDRESS)]
        self.assertEqual(last(calls, 2), [[0], [MOST_ADDRESS, MOST_CLIENT, 1, TOP - 1, 1]])


class Decline(unittest.TestCase):
    def test_answers_the_end_of_the_rest(self):
        self.assertEqual(last(LENT + [decline(5, 15, 1), lease(15), lease(16)], 3),
                         [[11], [15, 5, 1, 11, 2], [16, 6, 2, 10, 0]])

    def test_the_rest_of_its_own_subnet(self):
        calls = [begin(), subnet(), subnet(2, 20, 29, rest=33), *lend(5, 15), *lend(5, 25, ident=2)]
        self.assertEqual(last(calls + [decline(5, 25, 2), decline(5, 15, 1)], 2), [[33], [7]])

    def test_a_rest_may_end_earlier_than_the_lease(self):
        calls = [begin(), subnet(), *lend(5, 15, length=100), tick(4), decline(5, 15, 1), lease(15)]
        self.assertEqual(last(calls, 2), [[11], [15, 5, 1, 11, 2]])

    def test_up_to_the_last_moment(self):
        self.assertEqual(last(LENT + [tick(5), decline(5, 15, 1)]), [16])
        self.assertEqual(last(LENT + [tick(6), decline(5, 15, 1), lease(15)], 2), [[-8], [15, 5, 1, 10, 0]])

    def test_a_rest_is_till_the_end_of_time_at_most(self):
        for rest, end in ((TOP, TOP), (TOP - 4, TOP), (TOP - 5, TOP - 1)):
            calls = [begin(), subnet(rest=rest), *lend(5, 15), tick(4), decline(5, 15, 1)]
            self.assertEqual(last(calls), [end])
        late = [begin(), subnet(most=TOP), *lend(5, 15, length=TOP), tick(TOP - 1), lease(15)]
        self.assertEqual(last(late), [15, 5, 1, TOP, 0])
        self.assertEqual(last(late + [decline(5, 15, 1), tick(1), discover(1, 6, 15)], 3), [[TOP], [TOP], [15, 10, TOP]])

    def test_not_this_lease(self):
        for call in (
            decline(6, 15, 1), decline(5, 15, 2), decline(5, 15, 0), decline(5, 15, TOP), decline(5, 16, 1),
            decline(5, 16, 2), decline(5, 17, 1), decline(5, 9, 1), decline(5, 0, 0),
        ):
            with self.subTest(call=call):
                self.assertEqual(last(LENT + [call, lease(15), lease(16)], 3),
                                 [[-8], [15, 5, 1, 10, 0], [16, 6, 2, 10, 0]])

    def test_then_its_number_does_nothing_any_more(self):
        gone = LENT + [decline(5, 15, 1)]
        for calls in (gone, gone + [tick(7)]):
            for call in (renew(5, 15, 1), release(5, 15, 1), decline(5, 15, 1)):
                self.assertEqual(last(calls + [call, lease(15)], 2), [[-8], [15, 5, 1, 11, 2]])

    def test_it_may_be_declined_where_it_may_not_go_any_more(self):
        self.assertEqual(last(LENT + [hole(1, 15, 15), decline(5, 15, 1)]), [11])
        self.assertEqual(last(LENT + [reserve(15, 6), decline(5, 15, 1)]), [11])

    def test_nobody_gets_it_while_it_rests(self):
        resting = LENT + [decline(5, 15, 1)]
        self.assertEqual(last(resting + [discover(1, 7, 15)]), [10, 10, 64])
        self.assertEqual(last(resting + [discover(1, 5)]), [10, 10, 64])
        self.assertEqual(last(resting + [tick(6), discover(1, 7, 15)]), [10, 10, 70])
        self.assertEqual(last(resting + [reserve(15, 7), discover(1, 7)]), [10, 10, 64])
        self.assertEqual(last(resting + [hole(1, 10, 14), hole(1, 16, 19), discover(1, 7)]), [-13])

    def test_it_is_lent_again_when_the_rest_is_over(self):
        rested = LENT + [decline(5, 15, 1), tick(7)]
        self.assertEqual(last(rested + [discover(1, 7, 15)]), [15, 10, 71])
        self.assertEqual(last(rested + [discover(1, 5)]), [15, 10, 71])
        self.assertEqual(last(rested + [hole(1, 10, 14), hole(1, 16, 19), discover(1, 7)]), [15, 10, 71])
        self.assertEqual(last(rested + [*lend(7, 15), lease(15)], 2), [[3, 21], [15, 7, 3, 21, 0]])

    def test_the_client_has_no_standing_lease_any_more(self):
        self.assertEqual(last(LENT + [decline(5, 15, 1), request(5, 15)]), [-8])
        self.assertEqual(last(LENT + [decline(5, 15, 1), discover(1, 5), request(5, 10)], 2), [[10, 10, 64], [3, 14]])

    def test_its_class_is_not_full_any_more(self):
        full = LENT + [class_of(5, 2), class_of(7, 2), limit(1, 2, 1)]
        self.assertEqual(last(full + [decline(5, 15, 1), discover(1, 7)]), [10, 10, 64])

    def test_an_offer_made_when_a_rest_was_over(self):
        """Compacting in between changes nothing of that."""
        rested = LENT + [decline(5, 15, 1), compact(), tick(7), discover(1, 7, 15), request(7, 15), usage()]
        self.assertEqual(last(rested, 3), [[15, 10, 71], [3, 21], [1, 0, 1, 0, 9]])

    def test_refused_nothing_changes(self):
        """The row of the lease fits, that of release not: the lease stands as it was, and goes on."""
        calls = [begin(53 + 38 + 23), subnet(), *lend(5, 15), tick(1)]
        self.assertEqual(ask(calls + [release(5, 15, 1), decline(5, 15, 1), lease(15), hole(1, 12, 12)])[-4:],
                         [[-9], [-9], [15, 5, 1, 10, 0], [0]])


if __name__ == "__main__":
    unittest.main()
