"""Points 2 and 3 of whole numbers, and how they are written, however long: what the other modules lean on."""

import unittest

from backwater.nets import Net
from backwater.stands import Stand
from backwater.wholes import figures, is_figures, is_whole, number_of
from tests.things import GREAT, NO_WHOLES, ThingsTestCase

EDGES = [10 ** power + more for power in (0, 1, 2, 39, 40, 63, 64, 65, 127, 128, 129, 200) for more in (-1, 0, 1)]


class WholesTest(ThingsTestCase):
    def test_is_whole(self):
        for number, least, told in ((0, 0, True), (0, 1, False), (1, 1, True), (-1, 0, False), (GREAT, 1, True)):
            self.assertIs(is_whole(number, least), told)
        for thing in NO_WHOLES:
            self.told_false(is_whole(thing, 0))

    def test_written_as_str_writes_it(self):
        for number in EDGES:
            self.assertEqual(figures(number), str(number))
            self.assertEqual(figures(-number), str(-number))

    def test_read_as_int_reads_it(self):
        for number in EDGES:
            self.assertEqual(number_of(str(number)), number)

    def test_longer_than_python_itself_writes_and_reads(self):
        for zeros in (4299, 4300, 4301, 5900, 20000):
            self.assertEqual(figures(10 ** zeros), "1" + "0" * zeros)
            self.assertEqual(figures(10 ** zeros - 1), "9" * zeros)
            self.assertEqual(figures(7 - 10 ** zeros), "-" + "9" * (zeros - 1) + "3")
            self.assertEqual(number_of("1" + "0" * zeros), 10 ** zeros)
            self.assertEqual(number_of("9" * zeros), 10 ** zeros - 1)

    def test_what_is_written_in_figures(self):
        for number in EDGES:
            self.told_true(is_figures(str(number)))
        for word in ("", "00", "01", "-1", "+1", " 1", "1 ", "1\n", "1_0", "1.0", "a", "1a", "\u0661", "\u00b2", "\uff11"):
            self.told_false(is_figures(word))


class ReprTest(ThingsTestCase):
    def test_a_stand_with_numbers_of_any_size_is_shown(self):
        net = Net({"b": 3, "a": 4})
        long = "1" + "0" * 5000
        stand = Stand(net, {"b": 10 ** 5000}, {"a": 10 ** 5000, "b": 7})
        told = f"Stand(Net({{'a': 4, 'b': 3}}, {{}}), {{'a': 0, 'b': {long}}}, {{'a': {long}, 'b': 7}})"
        self.assertEqual(repr(stand), told)


if __name__ == "__main__":
    unittest.main()
