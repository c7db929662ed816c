import inspect
import itertools
import unittest

from mixpots.notes import read, shown
from helper import WRONG_WARES, assert_refused, many_plans, subsets

# Every sign that a text may have.
SIGNS = ["\t", "\n"] + [chr(number) for number in range(32, 127) if chr(number) != "%"]


class Shown(unittest.TestCase):
    def test_the_arguments_are_called_as_documented(self):
        self.assertEqual(list(inspect.signature(shown).parameters), ["wares", "plan"])
        self.assertEqual(shown(wares=2, plan=[[0], [1]]), "0 1")

    def test_the_example_of_the_document(self):
        self.assertEqual(shown(4, [[0, 2], [1, 3], [2]]), "02 13 2")

    def test_a_plan_of_no_mixtures(self):
        for wares in range(1, 9):
            self.assertEqual(shown(wares, []), "")

    def test_one_ware_and_eight_wares(self):
        self.assertEqual(shown(1, [[0]]), "0")
        self.assertEqual(shown(1, [[0]] * 12), "0 0 0 0 0 0 0 0 0 0 0 0")
        self.assertEqual(shown(8, [[0, 1, 2, 3, 4, 5, 6, 7], [7], [0, 7]]), "01234567 7 07")
        self.assertEqual(shown(8, [list(range(8))] * 12), " ".join(["01234567"] * 12))

    def test_mixtures_keep_their_order_and_may_be_alike(self):
        self.assertEqual(shown(3, [[2], [0, 1], [2], [0]]), "2 01 2 0")

    def test_a_text_is_told(self):
        self.assertIs(type(shown(1, [])), str)
        self.assertIs(type(shown(4, [[0, 2], [1]])), str)


class Read(unittest.TestCase):
    def test_the_arguments_are_called_as_documented(self):
        self.assertEqual(list(inspect.signature(read).parameters), ["wares", "text"])
        self.assertEqual(read(wares=2, text="0 1"), [[0], [1]])

    def test_the_example_of_the_document(self):
        self.assertEqual(read(4, "02 13 2"), [[0, 2], [1, 3], [2]])

    def test_the_empty_text(self):
        for wares in range(1, 9):
            self.assertEqual(read(wares, ""), [])

    def test_one_ware_and_eight_wares(self):
        self.assertEqual(read(1, "0"), [[0]])
        self.assertEqual(read(1, "0 0"), [[0], [0]])
        self.assertEqual(read(8, "01234567 7 07"), [[0, 1, 2, 3, 4, 5, 6, 7], [7], [0, 7]])

    def test_twelve_mixtures(self):
        self.assertEqual(read(1, " ".join(["0"] * 12)), [[0]] * 12)
        self.assertEqual(read(8, " ".join(["01234567"] * 12)), [list(range(8))] * 12)

    def test_what_is_shown_is_read_again_as_the_plan(self):
        for wares, plan in many_plans():
            text = shown(wares, plan)
            self.assertEqual(read(wares, text), plan)
            self.assertEqual(shown(wares, read(wares, text)), text)
            self.assertEqual(text, " ".join("".join(map(str, mixture)) for mixture in plan))

    def test_every_mixture_of_every_number_of_wares(self):
        for wares in range(1, 9):
            for mixture in subsets(wares)[1:]:
                text = "".join(map(str, mixture))
                self.assertEqual(shown(wares, [mixture]), text)
                self.assertEqual(read(wares, text), [mixture])

    def test_a_list_of_lists_of_whole_numbers_is_told(self):
        told = read(8, "07 1")
        self.assertIs(type(told), list)
        self.assertEqual([type(each) for each in told], [list, list])
        self.assertEqual([type(ware) for each in told for ware in each], [int, int, int])
        self.assertIs(type(read(8, "")), list)


class ReadRefused(unittest.TestCase):
    def refused(self, wares, *texts):
        for text in texts:
            with self.subTest(wares=wares, text=text):
                assert_refused(self, "NoNote", read, wares, text)

    def test_a_blank_ahead_behind_or_twice(self):
        self.refused(4, " 02", "02 ", "02  13", " 02 13", "02 13 ", "  0", "0  ", "0   1", " 0 ")

    def test_blanks_alone(self):
        for count in (1, 2, 3, 11, 12, 13, 200):
            for wares in (1, 8):
                self.refused(wares, " " * count)

    def test_a_figure_twice_or_the_wrong_way_round(self):
        self.refused(4, "00", "11", "022", "0 11", "0 33 1", "10", "20 13", "02 31", "021", "0132", "3210")
        self.refused(1, "00", "0 00")
        self.refused(8, "76", "77", "012345677", "012345676", "0123456701234567")

    def test_a_figure_of_a_ware_that_there_is_not(self):
        for wares in range(1, 9):
            for figure in range(wares, 10):
                self.refused(wares, str(figure), f"0{figure}", f"0 {figure}", f"{figure} 0")

    def test_each_sign_that_is_neither_a_figure_nor_a_blank(self):
        for sign in SIGNS:
            if sign not in "01234567 ":
                self.refused(8, sign, "0" + sign, sign + "0", "0" + sign + "1", "0 " + sign, sign + " 0", "0 1" + sign)

    def test_tabs_line_ends_commas_and_signs_in_the_place_of_blanks(self):
        self.refused(4, "02\t13", "02\n13", "02,13", "02, 13", "02\n", "\n", "\t", "\n02", "02 13\n", "02 \n13")
        self.refused(4, "-1", "+1", "-0", "+0 1", "0 -1", "1.", "0_1", "[[0]]", "[]", "a", "O", "l", "none")

    def test_thirteen_mixtures_and_more(self):
        for count in (13, 14, 40, 100):
            self.refused(1, " ".join(["0"] * count))
            self.refused(8, " ".join(["07"] * count))

    def test_long_texts(self):
        self.refused(8, "0" * 200, "0" * 300, " ".join(["01234567"] * 22), "01234567" * 25, "x" * 200)

    def test_all_short_texts(self):
        """Of all texts of at most four of these signs just those are read that show a plan."""
        right = {}
        for count in range(3):
            for chosen in itertools.product(subsets(3)[1:], repeat=count):
                right[" ".join("".join(map(str, mixture)) for mixture in chosen)] = [list(each) for each in chosen]
        for length in range(5):
            for signs in itertools.product("0123 a\n", repeat=length):
                text = "".join(signs)
                if text in right:
                    self.assertEqual(read(3, text), right[text])
                else:
                    assert_refused(self, "NoNote", read, 3, text)

    def test_wares_are_refused_whatever_the_text(self):
        for wares in WRONG_WARES:
            for text in ("", "0", "02 13 2", " ", "8", "x", "00", "0\n", " ".join(["0"] * 13), "0" * 300):
                assert_refused(self, "NoWares", read, wares, text)


if __name__ == "__main__":
    unittest.main()
