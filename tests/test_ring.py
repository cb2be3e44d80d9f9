"""lossway.ring: promises 7 and 8."""

import unittest
from unittest.mock import ANY

from lossway.errors import InvalidNumber, InvalidSetting
from lossway.ring import Ring
from tests.values import NOT_INTEGERS, caught

SIZES = (64, 128, 1024, 65536, 4294967296)


class SizeTest(unittest.TestCase):
    def test_powers_of_two_from_64_to_4294967296(self):
        for bits in range(6, 33):
            self.assertEqual(Ring(2 ** bits).size, 2 ** bits)

    def test_class_values(self):
        self.assertEqual((Ring.LEAST, Ring.GREATEST), (64, 4294967296))

    def test_other_sizes(self):
        near = [size + step for size in SIZES for step in (-1, 1)]
        for size in (*near, 0, 1, 2, 32, 96, -64, 3 * 64, 2 ** 33, 2 ** 64, *NOT_INTEGERS, 64.0, "64"):
            self.assertEqual(caught(InvalidSetting, Ring, size), {"setting": "size"})

    def test_of_bits(self):
        for bits in range(6, 33):
            ring = Ring.of_bits(bits)
            self.assertIs(ring.__class__, Ring)
            self.assertEqual(ring.size, 2 ** bits)

    def test_of_other_bits(self):
        for bits in (5, 33, 0, -6, 64, *NOT_INTEGERS, 6.0, "6"):
            self.assertEqual(caught(InvalidSetting, Ring.of_bits, bits), {"setting": "bits"})


class WrapTest(unittest.TestCase):
    def test_example(self):
        ring = Ring(64)
        found = [ring.wrap(-3), ring.unwrap(2, 63), ring.gap(61, 2), ring.before(61, 2), ring.within(61, 2, 2)]
        self.assertEqual(found, [61, 66, 5, True, False])

    def test_wrap(self):
        for size in SIZES:
            ring = Ring(size)
            for offset, number in (
                (0, 0), (1, 1), (size - 1, size - 1), (size, 0), (size + 1, 1), (7 * size + 5, 5),
                (-1, size - 1), (-size, 0), (-size - 1, size - 1), (-5 * size + 3, 3),
            ):
                self.assertEqual(ring.wrap(offset), number)

    def test_wrap_refuses_what_is_no_integer(self):
        for offset in NOT_INTEGERS:
            self.assertIs(caught(InvalidNumber, Ring(64).wrap, offset)["number"], offset)

    def test_unwrap_gives_the_only_offset_in_the_range(self):
        ring = Ring(64)
        for near in (*range(-130, 131), 10 ** 12, -10 ** 12):
            for number in range(64):
                offsets = [offset for offset in range(near - 32, near + 32) if offset % 64 == number]
                self.assertEqual([ring.unwrap(number, near)], offsets)

    def test_unwrap_at_both_ends(self):
        for size in SIZES:
            ring = Ring(size)
            for near in (0, 5, -7, 3 * size, 10 ** 12):
                low, high = near - size // 2, near + size // 2 - 1
                for offset in (low, low + 1, near, high - 1, high):
                    self.assertEqual(ring.unwrap(ring.wrap(offset), near), offset)
                self.assertEqual(ring.unwrap(ring.wrap(high + 1), near), low)
                self.assertEqual(ring.unwrap(ring.wrap(low - 1), near), high)

    def test_unwrap_refuses_the_number_first(self):
        ring = Ring(64)
        for number in (-1, 64, *NOT_INTEGERS):
            self.assertIs(caught(InvalidNumber, ring.unwrap, number, 0)["number"], number)
            self.assertIs(caught(InvalidNumber, ring.unwrap, number, "near")["number"], number)
        for near in NOT_INTEGERS:
            self.assertIs(caught(InvalidNumber, ring.unwrap, 63, near)["number"], near)


class OrderTest(unittest.TestCase):
    def test_all_pairs_of_the_least_ring(self):
        ring = Ring(64)
        for low in range(64):
            for steps in range(64):
                high = (low + steps) % 64
                self.assertEqual(ring.gap(low, high), steps)
                self.assertIs(ring.before(low, high), 0 < steps < 32)

    def test_half_a_ring(self):
        for size in SIZES:
            ring = Ring(size)
            half = size // 2
            self.assertEqual((ring.gap(0, half), ring.gap(half, 0)), (half, half))
            self.assertEqual((ring.before(0, half), ring.before(half, 0)), (False, False))
            self.assertEqual((ring.before(0, half - 1), ring.before(half - 1, 0)), (True, False))
            self.assertEqual((ring.before(half + 1, 0), ring.before(0, half + 1)), (True, False))
            self.assertEqual((ring.before(size - 1, 0), ring.before(0, size - 1)), (True, False))
            self.assertEqual((ring.gap(size - 1, 0), ring.gap(0, size - 1)), (1, size - 1))

    def test_within(self):
        ring = Ring(64)
        for low in (0, 1, 31, 32, 50, 63):
            for middle in range(64):
                for top in range(64):
                    found = ring.within(low, (low + middle) % 64, (low + top) % 64)
                    self.assertIs(found, middle < top)

    def test_the_first_wrong_argument_decides(self):
        ring = Ring(64)
        for wrong in (-1, 64, *NOT_INTEGERS):
            for call in (ring.gap, ring.before):
                self.assertIs(caught(InvalidNumber, call, wrong, 65)["number"], wrong)
                self.assertIs(caught(InvalidNumber, call, 63, wrong)["number"], wrong)
            self.assertIs(caught(InvalidNumber, ring.within, wrong, 65, 66)["number"], wrong)
            self.assertIs(caught(InvalidNumber, ring.within, 0, wrong, 66)["number"], wrong)
            self.assertIs(caught(InvalidNumber, ring.within, 0, 63, wrong)["number"], wrong)


class OperatorsTest(unittest.TestCase):
    def test_in(self):
        for size in SIZES:
            ring = Ring(size)
            for number in (0, 1, size - 1):
                self.assertIs(number in ring, True)
            for number in (-1, size, *NOT_INTEGERS):
                self.assertIs(number in ring, False)

    def test_equal(self):
        for size in SIZES:
            self.assertIs(Ring(size) == Ring(size), True)
            self.assertIs(Ring(size) != Ring(size), False)
        self.assertIs(Ring(64) == Ring(128), False)
        self.assertIs(Ring.of_bits(6) == Ring(64), True)

    def test_equals_no_other_value(self):
        for other in (64, "64", None, (64,), ANY, object()):
            self.assertIs(Ring(64) == other, False)


if __name__ == "__main__":
    unittest.main()
