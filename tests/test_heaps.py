"""Point 7: a heap in hand."""

import unittest

from plain import HUGE, KINDS, MILLION, NO_NUMBERS, SHAPES, assert_refused, plain_fewest, plain_led
from squareleads.errors import BadKind, BadRoot, TooMuch
from squareleads.heaps import Heap


class HeapTests(unittest.TestCase):
    def stands(self, heap, kind, total, deeds):
        """Check all that is told of a heap."""
        self.assertEqual(heap.total(), total)
        self.assertEqual(heap.deeds(), deeds)
        self.assertEqual(heap.leads(), plain_led(kind, total))
        self.assertEqual(heap.need(), plain_fewest(kind)[total])
        for value in [heap.total(), heap.need()] + heap.leads() + heap.deeds():
            self.assertIs(type(value), int)

    def run_deeds(self, kind, wanted_deeds):
        """Do deeds in turn, a root to add or, below 0, to take, beside a plain sum of the test's own."""
        heap = Heap(kind)
        total = 0
        done = []
        self.stands(heap, kind, 0, [])
        for deed in wanted_deeds:
            worth = SHAPES[kind][abs(deed)]
            if deed > 0 and total + worth > MILLION:
                assert_refused(self, TooMuch, heap.add, deed)
            elif deed < 0 and worth > total:
                assert_refused(self, BadRoot, heap.take, -deed)
            else:
                total += worth if deed > 0 else -worth
                done.append(deed)
                told = heap.add(deed) if deed > 0 else heap.take(-deed)
                self.assertIs(type(told), int)
                self.assertEqual(told, total)
            self.stands(heap, kind, total, done)
        return heap

    def test_a_new_heap(self):
        for kind in KINDS:
            self.stands(Heap(kind), kind, 0, [])
            self.assertEqual(Heap(kind).need(), 0)
            self.assertEqual(Heap(kind).leads(), [])

    def test_added_and_taken_in_turn(self):
        for kind in KINDS:
            self.run_deeds(kind, [3, -2, 1, 1, -3, 5, 5, -7, -4, 10, -1, -1, -1, 2, -10, -6, 30, -29, 12, -12])

    def test_written_out(self):
        heap = Heap(0)
        self.assertEqual([heap.add(3), heap.add(2), heap.take(1), heap.add(4)], [9, 13, 12, 28])
        self.assertEqual((heap.total(), heap.need()), (28, 4))
        self.assertEqual((heap.leads(), heap.deeds()), ([5, 1, 1, 1], [3, 2, -1, 4]))
        heap = Heap(1)
        self.assertEqual([heap.add(3), heap.add(2), heap.take(1), heap.add(4)], [6, 9, 8, 18])
        self.assertEqual((heap.total(), heap.need()), (18, 2))
        self.assertEqual((heap.leads(), heap.deeds()), ([5, 2], [3, 2, -1, 4]))

    def test_up_to_a_million_and_just_beyond(self):
        heap = self.run_deeds(0, [1000, 1, 1000, -1, 1, 1])
        self.assertEqual((heap.total(), heap.deeds()), (MILLION, [1000, -1, 1]))
        heap = self.run_deeds(1, [1413, 44, 44, 5, 5, 2, 1, 1, 2])
        self.assertEqual((heap.total(), heap.deeds()), (MILLION, [1413, 44, 5, 2, 1]))
        heap = self.run_deeds(1, [1413, 44, 5, 2, 2, 1, 1])
        self.assertEqual(heap.total(), MILLION)
        for kind in KINDS:
            heap = Heap(kind)
            assert_refused(self, TooMuch, heap.add, (1001, 1414)[kind])
            assert_refused(self, TooMuch, heap.add, HUGE)
            self.stands(heap, kind, 0, [])

    def test_just_below_a_million_there_is_room(self):
        heap = Heap(0)
        for root in (999, 44, 7, 3, 2):
            heap.add(root)
        self.stands(heap, 0, 999999, [999, 44, 7, 3, 2])
        assert_refused(self, TooMuch, heap.add, 2)
        self.assertEqual(heap.add(1), MILLION)
        self.stands(heap, 0, MILLION, [999, 44, 7, 3, 2, 1])

    def test_down_to_nought_and_just_beyond(self):
        for kind in KINDS:
            heap = self.run_deeds(kind, [4, -5, -4, -1, 2, -3, -1, -2, -1, -1, -1, 1, -1])
            heap = Heap(kind)
            assert_refused(self, BadRoot, heap.take, 1)
            assert_refused(self, BadRoot, heap.take, HUGE)
            self.stands(heap, kind, 0, [])
            heap.add(7)
            assert_refused(self, BadRoot, heap.take, 8)
            self.stands(heap, kind, SHAPES[kind][7], [7])
            self.assertEqual(heap.take(7), 0)
            self.stands(heap, kind, 0, [7, -7])

    def test_what_is_no_root(self):
        for kind in KINDS:
            heap = Heap(kind)
            heap.add(5)
            for root in NO_NUMBERS + (0, -1, -5, -HUGE):
                assert_refused(self, BadRoot, heap.add, root)
                assert_refused(self, BadRoot, heap.take, root)
                self.stands(heap, kind, SHAPES[kind][5], [5])

    def test_what_is_no_kind(self):
        for kind in NO_NUMBERS + (-1, 2, HUGE, -HUGE):
            assert_refused(self, BadKind, Heap, kind)

    def test_two_heaps_side_by_side(self):
        for kind in KINDS:
            for other in KINDS:
                first, second = Heap(kind), Heap(other)
                first.add(5)
                self.stands(second, other, 0, [])
                second.add(3)
                first.take(2)
                assert_refused(self, BadRoot, second.take, 4)
                self.stands(first, kind, SHAPES[kind][5] - SHAPES[kind][2], [5, -2])
                self.stands(second, other, SHAPES[other][3], [3])

    def test_lists_that_are_told_are_the_callers(self):
        for kind in KINDS:
            heap = Heap(kind)
            heap.add(5)
            heap.add(2)
            heap.take(1)
            deeds, leads = heap.deeds(), heap.leads()
            self.assertIsNot(heap.deeds(), deeds)
            self.assertIsNot(heap.leads(), leads)
            deeds.append(9)
            deeds[0] = 0
            leads.clear()
            self.stands(heap, kind, SHAPES[kind][5] + SHAPES[kind][2] - 1, [5, 2, -1])
            heap.add(1)
            self.assertEqual(deeds, [0, 2, -1, 9])
            self.assertEqual(leads, [])

    def test_need_over_a_stretch(self):
        for kind in KINDS:
            heap = Heap(kind)
            for number in range(1, 500):
                self.assertEqual(heap.add(1), number)
                self.assertEqual(heap.need(), plain_fewest(kind)[number])

    def test_each_method_stands_in_the_class_itself(self):
        for name in ("add", "take", "total", "need", "leads", "deeds"):
            self.assertIn(name, vars(Heap))


if __name__ == "__main__":
    unittest.main()
