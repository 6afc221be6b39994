"""Texts of numbers, turns and chains, both ways."""

import unittest

from tests.samples import LONGEST, SIXTY, SIXTY_ONE, SMALL_PAIRS, Refusals, not_integers, not_numbers, strings
from toothchain.base.ratios import Ratio
from toothchain.errors import InvalidOperation, InvalidRatio, InvalidTurn, ParseError
from toothchain.sums.chains import chain_certificate, is_chain_certificate
from toothchain.text.texts import read_chain, read_number, read_turn, write_chain, write_number, write_turn
from toothchain.turns.turns import Turn, word_turn

EIGHT_HUNDRED = 10 ** 800 - 1
NUMBERS = [Ratio(0), Ratio(5), Ratio(-5), Ratio(-3, 4), Ratio(10, 3), Ratio(1, SIXTY), Ratio(SIXTY), Ratio(SIXTY, SIXTY - 1),
           Ratio(-SIXTY, 7).power(40), Ratio(3, SIXTY).power(33), Ratio(10).power(40)]
INTEGERS = [0, 1, -1, 9, 10, -100, 12345678901234567890, SIXTY, -SIXTY, SIXTY_ONE, EIGHT_HUNDRED, -10 ** 900]
NO_INTEGERS = ["\u0663", "1\u0663", "\u00b2", "", "-", "+1", "00", "01", "-0", "-01", "--1", "1-", " 1", "1 ", "1\n", "\n", "a", "1a", "0x1", "1_000", "1.0", "1e3",
               "True", "None", "(1)", "1,2", "1;", ";", ";1", "- 1", "0-1", "-00", "000000", "1" + "0" * 70 + "x"]


class Texts(unittest.TestCase, Refusals):
    def assert_unread(self, at, call, text):
        error = self.assert_refused(ParseError, call, text)
        self.assertEqual((error.at, type(error.at)), (at, type(at)), text)

    def assert_no_texts(self, call):
        for value in not_integers():
            if not isinstance(value, str):
                self.assert_unread(None, call, value)


class NumberTests(Texts):
    def test_both_ways(self):
        for number in NUMBERS:
            text = write_number(number)
            self.assertEqual((text, type(text)), (str(number), str))
            found = read_number(text)
            self.assertEqual((found, type(found)), (number, Ratio))
        for number in (0, 5, -5, SIXTY, -SIXTY):
            self.assertEqual((write_number(number), type(read_number(str(number)))), (str(number), Ratio))
            self.assertEqual(read_number(str(number)), number)

    def test_texts(self):
        self.assertEqual([write_number(one) for one in (Ratio(-3, 4), Ratio(5), 5, -5, 0, Ratio(0, -7), Ratio(6, -8))],
                         ["-3/4", "5", "5", "-5", "0", "0", "-3/4"])

    def test_numbers_that_are_none(self):
        for value in [*not_numbers(), word_turn("U")]:
            self.assert_refused(InvalidRatio, write_number, value)

    def test_wrong_integers(self):
        for text in NO_INTEGERS:
            self.assert_unread(0, read_number, text)
            self.assert_unread(0, read_number, f"{text}/3")
            self.assert_unread(0, read_number, f"3/{text}")
        for text in ["1/0", "1/-3", "-1/-3", "1//3", "1/3/5", "/", "/3", "3/", "1 /3", "1/ 3", "1; 2", "1/2; 1/3", "0/0", "1/00"]:
            self.assert_unread(0, read_number, text)

    def test_texts_of_no_number(self):
        for text in ["2/4", "-3/6", "5/1", "0/1", "0/7", "-5/5", "10/5", f"{SIXTY}/{SIXTY}", f"{SIXTY_ONE}/10", "12/8"]:
            self.assert_unread(None, read_number, text)

    def test_long_integers(self):
        for digits in (59, 60, 61, 119, 120, 121, 800, 801, 1999, 4300, 5000):
            text = "7" + "0" * (digits - 2) + "1"
            for sign in ("", "-"):
                number = read_number(sign + text)
                self.assertEqual(str(number), sign + text)
                self.assertEqual(number, int(sign + "7") * 10 ** (digits - 1) + int(sign + "1"))
                self.assertEqual(str(read_number(f"{sign}3/{text}")), f"{sign}3/{text}")
                self.assertEqual(write_number(number), sign + text)

    def test_values_that_are_no_strings(self):
        self.assert_no_texts(read_number)
        for text in [one for one in strings() if one not in ("1", "-3/4")]:
            self.assert_unread(0, read_number, text)


class TurnTests(Texts):
    def test_both_ways(self):
        for turn in [word_turn(""), word_turn("UUV"), -word_turn("UVUV"), Turn(0, -1, 1, 0), Turn(1, SIXTY, 0, 1),
                     Turn(2, 1, 1, 1).power(40).power(40), word_turn("UV" * 200)]:
            text = write_turn(turn)
            self.assertEqual((text, type(text)), (str(turn), str))
            found = read_turn(text)
            self.assertIs(type(found), Turn)
            self.assertTrue(found == turn)
            self.assertTrue(found * word_turn("U") == turn * word_turn("U"))

    def test_texts(self):
        self.assertEqual([write_turn(one) for one in (word_turn("UUV"), -word_turn("U"))], ["3 2; 1 1", "-1 -1; 0 -1"])

    def test_values_that_are_no_turns(self):
        for value in [*not_integers(), 1, ((1, 0), (0, 1)), "1 0; 0 1"]:
            self.assert_refused(InvalidTurn, write_turn, value)

    def test_first_wrong_piece(self):
        pieces = ["", " ", "1", "1 2 3", "1  2", " 1 2", "1 2 ", "1 2;", "1/2 1", "1\n2", "1;2"]
        for wrong in NO_INTEGERS:
            if ";" not in wrong:
                pieces += [f"{wrong} 1", f"1 {wrong}"]
        for piece in pieces:
            self.assert_unread(0, read_turn, f"{piece}; 0 1")
            self.assert_unread(0, read_turn, f"{piece}; {piece}")
            self.assert_unread(1, read_turn, f"1 0; {piece}")
            self.assert_unread(2, read_turn, f"1 0; 0 1; {piece}; 5")
        self.assert_unread(0, read_turn, "1 0;0 1")
        self.assert_unread(0, read_turn, "1 0 ; 0 1")
        self.assert_unread(1, read_turn, "1 0;  0 1")
        self.assert_unread(1, read_turn, "1 0; ")
        self.assert_unread(0, read_turn, "")
        self.assert_unread(0, read_turn, "; ")
        self.assert_unread(0, read_turn, "3; 1 1")

    def test_texts_of_no_turn(self):
        for text in ["1 0; 0 -1", "3 2; 1 2", "0 0; 0 0", "1 0", "1 0; 0 1; 1 0", "1 0; 0 1; 0 0; 0 0", f"{SIXTY_ONE} 1; 1 1"]:
            self.assert_unread(None, read_turn, text)

    def test_long_integers(self):
        for number in (SIXTY_ONE, 10 ** 800, 10 ** 1500 + 1):
            turn = read_turn(f"1 {number}; 0 1")
            self.assertEqual((turn.rows, write_turn(turn)), (((1, number), (0, 1)), f"1 {number}; 0 1"))
        self.assertEqual(read_turn(f"1 0; -{'9' * 5000} 1").trace, 2)

    def test_values_that_are_no_strings(self):
        self.assert_no_texts(read_turn)
        for text in strings():
            self.assert_unread(0, read_turn, text)


class ChainTests(Texts):
    def test_both_ways(self):
        for a, b in [*SMALL_PAIRS, LONGEST, (SIXTY, SIXTY - 1), (-SIXTY, 12)]:
            rows = chain_certificate(a, b)
            text = write_chain(rows)
            self.assertIs(type(text), str)
            self.assertEqual(read_chain(text), rows)
            self.assertIs(is_chain_certificate(a, b, read_chain(text)), True)

    def test_texts(self):
        self.assertEqual(write_chain(((1, 3, 1, 18), (3, 1, 0, 1), (0, 1, 0, 1))), "1 3 1 18; 3 1 0 1; 0 1 0 1")
        self.assertEqual(write_chain(((-1, -2, 0, -4),)), "-1 -2 0 -4")
        for number in INTEGERS[:-1]:
            row = (number, 0, -number, 1)
            self.assertEqual(write_chain((row, row)), f"{number} 0 {-number} 1; {number} 0 {-number} 1")
            self.assertEqual(read_chain(write_chain((row, row))), (row, row))
        found = read_chain("1 -2 0 -3")
        self.assertEqual((type(found), type(found[0]), {type(one) for one in found[0]}), (tuple, tuple, {int}))

    def test_values_that_are_no_rows(self):
        row = (1, 3, 1, 18)
        for value in [(), (row, ()), (row, (1, 2, 3)), (row, (1, 2, 3, 4, 5)), [row], (list(row),), (row, list(row)), row, (row, None),
                      ((1, 3, 1, True),), ((False, 3, 1, 1),), ((1, 3, Ratio(1), 18),), ((1, 3, "1", 18),), ((1, 3, None, 18),),
                      ((EIGHT_HUNDRED + 1, 1, 1, 1),), (row, (1, 1, 1, -10 ** 800)), (row,) * 2001, *not_integers(), "1 3 1 18"]:
            self.assert_refused(InvalidOperation, write_chain, value)

    def test_many_rows(self):
        row = (0, 1, 0, EIGHT_HUNDRED)
        self.assertEqual(read_chain(write_chain((row,) * 2000)), (row,) * 2000)
        for many in (2001, 2500):
            self.assert_unread(None, read_chain, "; ".join(["0 1 0 1"] * many))
            self.assert_unread(many, read_chain, "; ".join(["0 1 0 1"] * many + ["0 1 0"]))

    def test_long_integers(self):
        for number in (EIGHT_HUNDRED, -EIGHT_HUNDRED):
            self.assertEqual(read_chain(f"1 1 1 1; 1 {number} 1 1"), ((1, 1, 1, 1), (1, number, 1, 1)))
        for number in (EIGHT_HUNDRED + 1, -EIGHT_HUNDRED - 1, 10 ** 2000, "9" * 5000):
            # Integers of any length have the form, but no chain has this text.
            self.assert_unread(None, read_chain, f"1 1 1 1; 1 {number} 1 1")
            self.assert_unread(2, read_chain, f"1 1 1 1; 1 {number} 1 1; 1 1 1 x")

    def test_first_wrong_piece(self):
        for wrong in NO_INTEGERS:
            if ";" not in wrong:
                self.assert_unread(0, read_chain, f"{wrong} 1 1 1; 0 1 0 1")
                self.assert_unread(1, read_chain, f"0 1 0 1; 1 1 {wrong} 1; x")
                self.assert_unread(2, read_chain, f"0 1 0 1; 0 1 0 1; 1 1 1 {wrong}")
        for wrong in ["", " ", "1", "1 2 3", "1 2 3 4 5", "1  2 3 4", " 1 2 3 4", "1 2 3 4 ", "1 2 3 4;", ";1 2 3 4", "1 2 3 4;1 2 3 4",
                      "1,2,3,4", "1\n2 3 4", "1 2\t3 4", "1/2 1 1 1"]:
            self.assert_unread(0, read_chain, wrong)
            self.assert_unread(0, read_chain, f"{wrong}; {wrong}")
            self.assert_unread(1, read_chain, f"1 2 3 4; {wrong}")
            self.assert_unread(3, read_chain, f"1 2 3 4; 1 2 3 4; 1 2 3 4; {wrong}; 1 2 3 4")

    def test_values_that_are_no_strings(self):
        self.assert_no_texts(read_chain)
        for text in strings():
            self.assert_unread(0, read_chain, text)


if __name__ == "__main__":
    unittest.main()
