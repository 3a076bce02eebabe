"""withdraw and order: things taken away, and the order in which they stand."""

import unittest

from tests.helper import (
    CLEAR, EXAMPLE, FAR, NARROW, ORDER, ask, booked, cancel, delay, last, late, looks, post, row, table, table_of, time, used, withdraw,
)

A, B, C = 0, 1, 2


class Withdraw(unittest.TestCase):
    def test_how_many_are_left(self):
        self.assertEqual(ask(post(1), post(2), post(3), withdraw(2), withdraw(3), withdraw(1))[3:], [[2], [1], [0]])

    def test_the_thing_alone_is_gone(self):
        calls = [table(EXAMPLE), post(3), post(1), post(2), withdraw(1)]
        self.assertEqual(ask(*calls, ORDER, booked(1), late(1), booked(2))[5:],
                         [[2, 2, 2, 3], [-4], [-4], [0, 0, 480] + row([7, 0, 0, 2, 360, 480])])

    def test_no_such_thing(self):
        for number in (-FAR, -1, 0, 2, 9999, 10000, FAR):
            self.assertEqual(last(withdraw(number)), [-4], number)
            self.assertEqual(last(post(1), withdraw(number)), [-4], number)
        self.assertEqual(last(post(1), withdraw(1), withdraw(1)), [-4])
        self.assertEqual(last(post(1), CLEAR, withdraw(1)), [-4])

    def test_numbers_at_both_ends(self):
        self.assertEqual(ask(post(1), post(9999), withdraw(9999), withdraw(1))[2:], [[1], [0]])

    def test_it_has_begun_a_ride(self):
        calls = [table(EXAMPLE), post(1)]
        self.assertEqual(last(*calls, time(360), withdraw(1)), [0])
        self.assertEqual(last(*calls, time(361), withdraw(1)), [-9])
        self.assertEqual(last(*calls, time(100000), withdraw(1)), [-9])

    def test_it_has_begun_one_of_two_rides(self):
        self.assertEqual(last(table(NARROW), post(1), time(361), withdraw(1)), [-9])

    def test_another_has_begun_a_ride(self):
        calls = [table(EXAMPLE), post(1), post(2, t=346), post(3, C, A), time(1000)]
        self.assertEqual(ask(*calls, withdraw(2), withdraw(1), withdraw(3))[5:], [[2], [-9], [1]])

    def test_a_thing_that_is_not_booked(self):
        self.assertEqual(last(table(EXAMPLE), post(1, amount=6), time(100000), withdraw(1)), [0])

    def test_the_others_are_booked_anew(self):
        calls = [table(EXAMPLE), post(1, amount=4), post(2, amount=4, rank=1)]
        self.assertEqual(ask(*calls, booked(2), late(2), withdraw(1), booked(2), late(2), used(7, 0, 0), time(361))[3:], [
            [0, 0, 1920] + row([7, 1, 0, 2, 1800, 1920]), [0, 1440], [1],
            [0, 0, 480] + row([7, 0, 0, 2, 360, 480]), [0, 0], [4, 0, 5, 5], [1],
        ])

    def test_the_number_is_free_again(self):
        calls = [table(EXAMPLE), post(1, amount=4), post(1), withdraw(1), post(1, B, C, t=400), booked(1)]
        self.assertEqual(ask(*calls)[2:], [[-4], [0], [0, 480], [0, 0, 480] + row([7, 0, 1, 2, 430, 480])])

    def test_the_eleventh_thing_may_be_posted(self):
        ten = [post(number) for number in range(1, 11)]
        self.assertEqual(ask(*ten, post(11), withdraw(4), post(11), post(12))[10:], [[-3], [9], [0, -1], [-3]])

    def test_without_things_a_table_may_be_told(self):
        calls = [table(EXAMPLE), post(1), post(2), withdraw(1), table_of([]), withdraw(2), table_of([])]
        self.assertEqual(ask(*calls)[4:], [[-10], [0], [0, 0]])

    def test_nothing_but_the_things_changes(self):
        before = [table(EXAMPLE), delay(7, 0, 1, 9), cancel(7, 2), time(200), post(2, A, B, 1, 5, 1, 300)]
        plain = ask(*before, *looks())[5:]
        self.assertEqual(ask(*before, post(1, amount=5, t=250), withdraw(1), *looks())[7:], plain)

    def test_a_refusal_changes_nothing(self):
        before = [table(NARROW), post(1), post(2, amount=5, rank=1), delay(2, 0, 0, 9), cancel(1, 2), time(361)]
        plain = ask(*before, *looks())[6:]
        self.assertEqual(ask(*before, withdraw(1), withdraw(3), withdraw(-FAR), *looks())[6:], [[-9], [-4], [-4]] + plain)


class Order(unittest.TestCase):
    def test_no_thing(self):
        self.assertEqual(last(ORDER), [0, 0])
        self.assertEqual(last(table(EXAMPLE), ORDER), [0, 0])
        self.assertEqual(last(post(1), withdraw(1), ORDER), [0, 0])
        self.assertEqual(last(post(1), CLEAR, ORDER), [0, 0])

    def test_one_thing(self):
        self.assertEqual(last(post(9999), ORDER), [1, 1, 9999])

    def test_by_ranks(self):
        self.assertEqual(last(post(1, rank=9), post(2, rank=0, t=50), post(3, rank=5, t=100000), ORDER), [3, 3, 2, 3, 1])

    def test_of_one_rank_by_when_ready(self):
        self.assertEqual(last(post(1, rank=4, t=30), post(2, rank=4, t=10), post(3, rank=4, t=20), ORDER), [3, 3, 2, 3, 1])

    def test_then_by_numbers(self):
        self.assertEqual(last(post(10, t=7), post(9, t=7), post(100, t=7), post(1, t=7), ORDER), [4, 4, 1, 9, 10, 100])

    def test_all_three(self):
        calls = [post(5, rank=1, t=5), post(4, rank=1, t=5), post(3, rank=1, t=4), post(2, rank=0, t=9), post(1, rank=2, t=0), ORDER]
        self.assertEqual(last(*calls), [5, 5, 2, 3, 4, 5, 1])

    def test_ten_things(self):
        self.assertEqual(last(*[post(number) for number in range(10, 0, -1)], ORDER), [10, 10] + list(range(1, 11)))

    def test_begun_rides_and_what_a_thing_is_else_count_nothing(self):
        # The thing 1 stands elsewhere behind its ride, and is ready there later than the thing 2.
        calls = [table(EXAMPLE), post(1, amount=5), post(2, B, A, 1, 999, t=300), time(361), ORDER]
        self.assertEqual(last(*calls), [2, 2, 1, 2])

    def test_a_refused_post_is_not_told(self):
        self.assertEqual(last(post(1), post(1), post(0), ORDER), [1, 1, 1])

    def test_nothing_changes(self):
        before = [table(EXAMPLE), post(2), post(1), time(361)]
        self.assertEqual(ask(*before, ORDER, ORDER, *looks())[6:], ask(*before, *looks())[4:])


if __name__ == "__main__":
    unittest.main()
