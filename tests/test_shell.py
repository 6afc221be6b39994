"""The shell: its commands, its answers, and that errors have no effect."""

import unittest

from tests.plain import exact, exchanged_sum
from tests.samples import LONGEST, SIXTY, SIXTY_ONE, Refusals, not_integers, strings
from toothchain.base.ladders import Ladder
from toothchain.base.ratios import Ratio
from toothchain.bench.bench import Bench
from toothchain.sums.chains import is_chain_certificate
from toothchain.text.shell import Shell
from toothchain.text.texts import read_chain
from toothchain.turns.turns import word_turn

NO_NAMES = ["A", "a1", "abcdefghi", "a-b", "1", "-", "a;", "a\n", "x" * 300]
NO_INTEGERS = ["", "+1", "01", "-0", "1/2", "a", "1.0", "--1", "1\n", str(SIXTY_ONE), f"-{SIXTY_ONE}", "9" * 1900]
NO_NUMBERS = ["", "2/4", "5/1", "0/3", "1/0", "1/-3", "01", "-0", "1/3/5", "a", "1.5", "/3", "3/", str(SIXTY_ONE), f"1/{SIXTY_ONE}",
              f"-{SIXTY_ONE}/7"]
NO_WORDS = ["", "u", "UX", "U V", "UVv", "U" * 401, "UV\n", "1"]


def shell_after(*commands):
    shell = Shell()
    for command in commands:
        shell(command)
    return shell


class Answers(unittest.TestCase, Refusals):
    def assert_answers(self, shell, *rows):
        for command, answer in rows:
            found = shell(command)
            self.assertEqual((found, type(found)), (answer, str), command)

    def assert_no_effect(self, shell, answer, command):
        before, many = shell.bench(), len(shell)
        found = shell(command)
        self.assertEqual((found, type(found)), (answer, str), command)
        self.assertTrue(shell.bench() == before)
        self.assertEqual((len(shell), str(shell)), (many, f"shell of {many} commands"))
        # The history is the same, too.
        after = shell.bench()
        for call in ("undo", "redo"):
            steps = [self.step(one, call) for one in (before, after)]
            self.assertEqual(steps[0], steps[1])
            self.assertTrue(before == after)

    def step(self, bench, call):
        try:
            return getattr(bench, call)()
        except LookupError:
            return None


class ChangeTests(Answers):
    def test_changes_and_news(self):
        shell = Shell()
        self.assert_answers(
            shell, ("enter one 1 3", "one - 1/18"), ("enter two 2 3", "two - -1/18"), ("enter one 1 5", "one 1/18 1/5"),
            ("shift one 7", "none"), ("show one", "36 5"), ("negate one", "one 1/5 -1/5"), ("negate one", "one -1/5 1/5"),
            ("invert one", "none"), ("show one", "1 5"), ("shift two -1", "none"), ("show two", "-1 3"),
            ("enter two 10 24", "two -1/18 -1/72"), ("reduce two", "none"), ("show two", "5 12"),
            ("exchange two", "two -1/72 0"), ("show two", "12 5"), ("remove two", "two 0 -"), ("list", "one"),
            ("undo 3", "two - -1/72"), ("redo 2", "two -1/72 0"), ("redo", "two 0 -"), ("undo", "two - 0"),
            ("undo 0", "none"), ("redo 0", "none"), ("undo 2", "two 0 -1/72"), ("show two", "10 24"),
        )
        self.assertEqual((len(shell), str(shell)), (26, "shell of 26 commands"))

    def test_several_news(self):
        shell = shell_after("enter b 1 3", "enter a 1 5", "enter c 0 1", "negate b")
        self.assertEqual(shell("undo 4"), "a 1/5 -, b -1/18 -, c 0 -")
        self.assertEqual(shell("redo 4"), "a - 1/5, b - -1/18, c - 0")
        self.assertEqual(shell("undo 2"), "b -1/18 1/18, c 0 -")

    def test_pins(self):
        shell = shell_after("enter a 1 3", "enter b 0 5", "enter c 10 9", "enter d 6 5", "enter e 1 5")
        self.assert_answers(
            shell, ("pin zero b", "none"), ("pin least a 1/18", "none"), ("pin most a 1/18", "none"), ("pin least b -5", "none"),
            ("pin equal d e", "none"), ("pin like e d", "none"), ("pin most b 0", "none"), ("unpin most b 0", "none"),
        )
        self.assertEqual(shell.bench().pins, (("zero", "b"), ("least", "a", Ratio(1, 18)), ("most", "a", Ratio(1, 18)),
                                              ("least", "b", -5), ("equal", "d", "e"), ("like", "e", "d")))
        for command, answer in [
            ("enter b 1 3", "refused zero b"), ("negate a", "refused least a 1/18"), ("enter a 1 5", "refused most a 1/18"),
            ("negate d", "refused equal d e"), ("pin most a 0", "refused most a 0"), ("pin least a 7/5", "refused least a 7/5"),
            ("pin least a 7", "refused least a 7"), ("pin equal a b", "refused equal a b"), ("pin like b a", "refused like b a"),
            ("pin zero a", "refused zero a"), ("pin most b -1/3", "refused most b -1/3"),
        ]:
            self.assert_no_effect(shell, answer, command)
        shell("unpin equal d e")
        # Twelve times the difference of opposite sums is no integer here.
        self.assert_no_effect(shell, "refused like e d", "negate d")

    def test_limits(self):
        shell = shell_after(*[f"enter {name} 0 1" for name in "abcdefgh"])
        self.assert_no_effect(shell, "many 8", "enter i 1 3")
        for k in range(8):
            self.assertEqual(shell(f"pin least a -{k + 1}"), "none")
        self.assert_no_effect(shell, "many 8", "pin zero a")
        self.assert_no_effect(shell, "many 8", "pin zero b")
        self.assertEqual(len(shell), 16)

    def test_what_is_not_allowed(self):
        shell = shell_after("enter a 2 4", "enter b 0 1", "enter c -3 5", f"enter d {SIXTY} 1", "pin zero b")
        for command in [
            "invert a", "exchange b", "exchange c", "enter e 1 0", "enter e 1 -3", "enter a 1 0", "shift d 1", "undo -1", "redo -5",
            f"shift c {SIXTY}", "remove b", "pin zero b", "unpin zero a", "pin zero x", "unpin zero x", "pin least x 1", "pin equal a x",
            "pin equal x a", "pin like x y", "pin equal a a", "pin like b b", "unpin equal a a", "unpin least b 5",
        ]:
            self.assert_no_effect(shell, "no", command)

    def test_nothing_to_undo(self):
        shell = Shell()
        for command, answer in [("undo", "nothing 1"), ("redo", "nothing 1"), ("undo 1", "nothing 1"), ("redo 2", "nothing 2")]:
            self.assert_no_effect(shell, answer, command)
        shell = shell_after("enter a 1 3", "enter b 1 3", "undo")
        for command, answer in [("undo 2", "nothing 2"), ("redo 2", "nothing 2"), (f"undo {SIXTY}", f"nothing {SIXTY}")]:
            self.assert_no_effect(shell, answer, command)
        shell("enter c 1 3")
        self.assert_no_effect(shell, "nothing 1", "redo")


class QuestionTests(Answers):
    def test_sums(self):
        shell = Shell()
        self.assert_answers(shell, ("sums", "none"), ("list", "none"))
        for command in ("enter two 0 1", "enter one 1 3", "enter six -1 7"):
            shell(command)
        self.assert_answers(shell, ("sums", "one:1/18 six:-5/14 two:0"), ("list", "one six two"), ("sum one", "1/18"),
                            ("sum six", "-5/14"), ("sum two", "0"), ("show six", "-1 7"))
        self.assertEqual(len(shell), 11)

    def test_chains_and_ladders(self):
        for a, b in [(5, 12), (0, 1), (-7, 3), (10, 24), LONGEST, (-SIXTY, SIXTY - 1)]:
            shell = shell_after(f"enter a {a} {b}")
            self.assertIs(is_chain_certificate(a, b, read_chain(shell("chain a"))), True)
            self.assertEqual(shell("ladder a"), str(Ladder(a, b)))
            self.assertEqual(shell("sum a"), str(shell.bench().sums["a"]))
            self.assertEqual(exact(shell.bench().sums["a"]), exchanged_sum(a, b))
            self.assertEqual(shell("show a"), f"{a} {b}")
        self.assertEqual(shell_after("enter a 17 12")("ladder a"), "17/12: 1 2 2 2")

    def test_words(self):
        shell = Shell()
        for word in ("U", "V", "UUV", "UUUV", "VVU", "UVUVV", "UV" * 200, "U" * 400):
            self.assert_answers(shell, (f"phi {word}", str(word_turn(word).phi)), (f"psi {word}", str(word_turn(word).psi)))
        self.assert_answers(shell, ("phi UUV", "4"), ("psi UUV", "1"), ("phi V", "2"), ("psi VV", "-2"))

    def test_unknown_names(self):
        shell = shell_after("enter a 1 3")
        for command in ["remove b", "shift b 1", "negate b", "reduce b", "invert b", "exchange b", "sum b", "chain b", "ladder b", "show b"]:
            self.assert_no_effect(shell, "unknown b", command)
        self.assert_no_effect(shell, "unknown abcdefgh", "sum abcdefgh")
        self.assert_no_effect(shell, "unknown none", "show none")


class FormTests(Answers):
    def test_commands_without_a_form(self):
        shell = shell_after("enter a 1 3", "enter b 0 1")
        for command in [
            "", " ", "what", "Enter c 1 3", "enter", "enter c", "enter c 1", "enter c 1 3 5", "enter  c 1 3", " enter c 1 3",
            "enter c 1 3 ", "enter c 1  3", "enter c 1\n3", "enter\nc 1 3", "remove", "remove a b", "shift a", "shift a 1 2", "negate",
            "negate a a", "reduce", "reduce a 1", "invert", "invert a b", "exchange", "exchange a b", "pin", "unpin", "pin zero",
            "pin zero a b", "pin least a", "pin most a", "pin least a 1 2", "pin equal a", "pin equal a b c", "pin like a", "pin other a",
            "pin Zero a", "pin a zero", "pin zero  a", "unpin zero", "unpin least a", "unpin other a", "undo a", "undo 1 2", "redo 1 2",
            "undo ", "redo x", "sum", "sum a b", "sums a", "chain", "chain a b", "ladder", "ladder a b", "phi", "psi", "phi U V", "psi U V",
            "show", "show a b", "list a", "list ", "sums ", "shift_pair a 1", "negate_pair a", "trial", "twin", "bench", "none", "pins",
            *strings(),
        ]:
            self.assert_no_effect(shell, "what", command)

    def test_values_that_are_no_strings(self):
        shell = shell_after("enter a 1 3")
        for value in [one for one in not_integers() if not isinstance(one, str)]:
            self.assert_no_effect(shell, "what", value)
        for value in [("list",), ["list"], {"list": "list"}, Bench(), Shell()]:
            self.assert_no_effect(shell, "what", value)

    def test_names_that_are_none(self):
        shell = shell_after("enter a 0 1")
        for name in NO_NAMES:
            for command in [
                "enter {} 1 3", "remove {}", "shift {} 1", "negate {}", "reduce {}", "invert {}", "exchange {}", "pin zero {}",
                "pin least {} 1", "pin most {} 1", "pin equal {} a", "pin equal a {}", "pin like {} a", "pin like a {}", "unpin zero {}",
                "sum {}", "chain {}", "ladder {}", "show {}",
            ]:
                self.assert_no_effect(shell, "what", command.format(name))

    def test_integers_that_are_none(self):
        shell = shell_after("enter a 0 1")
        for text in NO_INTEGERS:
            for command in ["enter b {} 3", "enter b 1 {}", "enter a {} 0", "shift a {}", "shift nobody {}", "undo {}", "redo {}"]:
                self.assert_no_effect(shell, "what", command.format(text))
        self.assert_answers(shell, (f"enter b {SIXTY} {SIXTY}", "b - 0"), (f"shift a -{SIXTY}", "none"), ("undo 0", "none"))

    def test_numbers_that_are_none(self):
        shell = shell_after("enter a 0 1")
        for text in NO_NUMBERS:
            for command in ["pin least a {}", "pin most a {}", "pin least nobody {}", "unpin least a {}", "unpin most a {}"]:
                self.assert_no_effect(shell, "what", command.format(text))
        self.assert_answers(shell, (f"pin most a {SIXTY}", "none"), (f"pin least a -1/{SIXTY}", "none"), ("pin most a 3/4", "none"))

    def test_words_that_are_none(self):
        shell = Shell()
        for word in NO_WORDS:
            for command in ("phi", "psi"):
                self.assert_no_effect(shell, "what", f"{command} {word}")

    def test_forms_come_first(self):
        shell = Shell()
        for command in ["shift nobody x", "enter toolongname 1 0", "remove Nobody", "pin least nobody 2/4", "undo 01"]:
            self.assert_no_effect(shell, "what", command)


class ValueTests(Answers):
    def test_twins(self):
        shell = shell_after("enter a 1 3", "enter b 0 1", "undo")
        bench = shell.bench()
        self.assertIs(type(bench), Bench)
        self.assertEqual(bench.pairs, {"a": (1, 3)})
        bench.redo()
        bench.enter("c", 1, 5)
        self.assertEqual(shell("list"), "a")
        self.assertEqual(shell("redo"), "b - 0")
        shell("remove a")
        self.assertEqual(list(bench), ["a", "b", "c"])
        self.assertTrue(shell.bench() == shell.bench())

    def test_lengths_and_texts(self):
        shell = Shell()
        self.assertEqual((len(shell), str(shell)), (0, "shell of 0 commands"))
        for many in range(1, 5):
            shell("list")
            shell("lists")
            self.assertEqual((len(shell), str(shell)), (many, f"shell of {many} commands"))

    def test_shells_are_apart_and_not_iterated_over(self):
        one, other = Shell(), Shell()
        one("enter a 1 3")
        self.assertEqual((other("list"), len(one), len(other)), ("none", 1, 1))
        with self.assertRaises(TypeError):
            iter(one)

    def test_wrong_calls(self):
        with self.assertRaises(TypeError):
            Shell()()
        with self.assertRaises(TypeError):
            Shell()("list", "list")


if __name__ == "__main__":
    unittest.main()
