"""Texts of plans and regimes: there and back, and the line at which a text goes wrong."""

import itertools
import random
import re
import unittest

from leavefirst.errors import InvalidPlan, ParseError
from leavefirst.plans import require_plan
from leavefirst.texts import format_plan, format_regime, parse_plan, parse_regime
from tests.helper import HOUSE, is_deeply_tuple, is_plain, plan_of, raised, some_pairs
from tests.naive import some_house

HOUSE_TEXT = """sign 0
change 0 to 1
sign 1
change 1 to 0
sign 0
change 2 to 1
starts 0
read 0 0:1 1:2 else 4
read 1 1:3 else 4
read 2 1:3 else 4
good
misled
"""
ALL_PAIRS = tuple(itertools.permutations(range(10), 2))
NO_NUMBERS = ("", "00", "01", "-1", "+1", "1.0", "a", "x1", "1x", "\u0661", "\u00b2", "\uff11", "1_0", "None", "True", "0\t")


def text_of(plan):
    """Return the text of a plan."""
    text = ""
    for first, changes in plan[0]:
        text += "sign " + str(first) + "\n"
        for name, value in changes:
            text += "change " + str(name) + " to " + str(value) + "\n"
    text += "starts" + "".join(" " + str(start) for start in plan[1]) + "\n"
    for node in plan[2]:
        if node[0] == "read":
            ways = "".join(" " + str(value) + ":" + str(target) for value, target in node[2])
            text += "read " + str(node[1]) + ways + " else " + str(node[3]) + "\n"
        else:
            text += node[1] + "\n"
    return text


def plan_in(lines):
    """Return what the lines write if they are roughly those of a plan, or None."""
    signs, starts, nodes = [], None, []
    for line in lines:
        found = re.fullmatch(r"(sign|change|starts|read|good|misled)((?: [0-9]+(?::[0-9]+)?| to| else)*)", line)
        if found is None:
            return None
        word, numbers = found[1], [int(digits) for digits in re.findall("[0-9]+", found[2])]
        if word == "sign" and len(numbers) == 1:
            signs.append((numbers[0], []))
        elif word == "change" and len(numbers) == 2 and signs:
            signs[-1][1].append(tuple(numbers))
        elif word == "starts":
            starts = tuple(numbers)
        elif word == "read" and len(numbers) >= 2 and len(numbers) % 2 == 0:
            nodes.append(("read", numbers[0], tuple(zip(numbers[1:-1:2], numbers[2:-1:2])), numbers[-1]))
        elif word in ("good", "misled"):
            nodes.append(("end", word))
        else:
            return None
    return (tuple((first, tuple(changes)) for first, changes in signs), starts or (), tuple(nodes))


def is_plan_text(lines):
    """Return whether the lines, each with a line end, are the text of a plan."""
    plan = plan_in(lines)
    try:
        return plan is not None and text_of(require_plan(plan)) == "".join(line + "\n" for line in lines)
    except InvalidPlan:
        return False


def can_go_on(lines):
    """Return whether some lines behind these make the text of a plan."""
    for head in ([], ["starts 0"], ["sign 0", "starts 0"]):
        for many in range(13):
            if is_plan_text(lines + head + ["good"] * many):
                return True
    return False


def wrong_line(text, may_go_on, is_text):
    """Return the line that ParseError should tell, or None."""
    lines = text.split("\n")
    for k in range(len(lines) - 1):
        if not may_go_on(lines[:k + 1]):
            return k
    return None if lines[-1] == "" and is_text(lines[:-1]) else len(lines) - 1


def is_regime_text(lines):
    """Return whether the lines are those of waits and drains."""
    pairs = {"waits for": [], "drains": []}
    for line in lines:
        found = re.fullmatch("([0-9]) (waits for|drains) ([0-9])", line)
        if found is None or found[1] == found[3]:
            return False
        pairs[found[2]].append((int(found[3]), int(found[1])))
        if found[2] == "waits for" and pairs["drains"]:
            return False
    return all(row == sorted(set(row)) for row in pairs.values())


class TextCase(unittest.TestCase):
    def require_plan_line(self, text, line):
        """Assert that the text is that of a plan (line is None), or goes wrong at this line."""
        self.assertEqual(wrong_line(text, can_go_on, is_plan_text), line)
        error = raised(ParseError, parse_plan, text)
        self.assertEqual(None if error is None else error.line, line)
        if line is None:
            self.assertEqual(format_plan(parse_plan(text)), text)

    def require_regime_line(self, text, line):
        self.assertEqual(wrong_line(text, is_regime_text, is_regime_text), line)
        error = raised(ParseError, parse_regime, text)
        self.assertEqual(None if error is None else error.line, line)
        if line is None:
            self.assertEqual(format_regime(*parse_regime(text)), text)


class FormatTest(TextCase):
    def test_the_example(self):
        plan = (((3, ((7, 4),)),), (0,), (("read", 0, ((3, 1),), 0), ("end", "good")))
        self.assertEqual(format_plan(plan), "sign 3\nchange 7 to 4\nstarts 0\nread 0 3:1 else 0\ngood\n")
        self.assertEqual(format_regime(((0, 1), (2, 0)), ((0, 1),)), "1 waits for 0\n0 waits for 2\n1 drains 0\n")
        self.assertEqual(format_regime(drains=((0, 1),), waits=()), "1 drains 0\n")
        self.assertEqual(format_plan(plan=plan), format_plan(plan))

    def test_the_house(self):
        self.assertEqual(format_plan(HOUSE), HOUSE_TEXT)
        self.assertEqual(parse_plan(HOUSE_TEXT), HOUSE)
        self.assertEqual(parse_plan(text=HOUSE_TEXT), HOUSE)
        self.assertTrue(is_plain(parse_plan(HOUSE_TEXT)))

    def test_several_starts(self):
        plan = (((0, ()),), (0, 3, 11), (("end", "good"),) * 12)
        self.assertEqual(format_plan(plan), "sign 0\nstarts 0 3 11\n" + "good\n" * 12)
        self.assertEqual(parse_plan(format_plan(plan)), plan)

    def test_the_greatest_and_the_least_plan(self):
        branches = tuple((value, 11 - value) for value in range(10))
        nodes = tuple(("read", k % 4, branches, k) for k in range(12))
        plan = (plan_of((9, 1, 2, 3), (4,), (5, 6, 7), ())[0], tuple(range(12)), nodes)
        self.assertEqual(parse_plan(format_plan(plan)), plan)
        plan = (((9, ()),), (0,), (("read", 0, (), 0),))
        self.assertEqual(format_plan(plan), "sign 9\nstarts 0\nread 0 else 0\n")
        self.assertEqual(parse_plan(format_plan(plan)), plan)

    def test_regimes_of_all_sizes(self):
        self.assertEqual((format_regime((), ()), parse_regime("")), ("", ((), ())))
        for many in range(0, 91, 6):
            pairs, others = ALL_PAIRS[:many], ALL_PAIRS[many:]
            for waits, drains in ((pairs, ()), ((), pairs), (pairs, others), (ALL_PAIRS, pairs), (ALL_PAIRS, ALL_PAIRS)):
                text = format_regime(waits, drains)
                self.assertEqual(text.count("\n"), len(waits) + len(drains))
                self.assertEqual(parse_regime(text), (waits, drains))
                self.assertEqual(parse_regime(text=text), (waits, drains))
                self.assertTrue(is_deeply_tuple(parse_regime(text)))

    def test_some_plans_and_regimes(self):
        chance = random.Random(131)
        for _ in range(300):
            plan = some_house(chance, 8, 12)
            text = format_plan(plan)
            self.assertEqual(text, text_of(plan))
            self.assertEqual(parse_plan(text), plan)
            self.assertTrue(is_plain(parse_plan(text)))
            regime = some_pairs(chance, 9), some_pairs(chance, 9)
            self.assertEqual(parse_regime(format_regime(*regime)), regime)


class PlanLineTest(TextCase):
    def test_too_early_ends(self):
        lines = HOUSE_TEXT.split("\n")[:-1]
        for k in range(len(lines)):
            self.require_plan_line("".join(line + "\n" for line in lines[:k]), k)
        self.require_plan_line("", 0)
        self.require_plan_line("sign 0\nstarts 0\n", 2)
        self.require_plan_line("sign 0\nstarts 0\ngood\n", None)
        self.require_plan_line("sign 0\nstarts 0 1\ngood\n", 3)
        self.require_plan_line("sign 0\nstarts 0 1\ngood\ngood\n", None)

    def test_without_the_last_line_end(self):
        for k in range(1, len(HOUSE_TEXT)):
            self.require_plan_line(HOUSE_TEXT[:k], HOUSE_TEXT[:k].count("\n"))

    def test_something_behind(self):
        for more in (" ", "good", "x", "\r", "sign 0", "\x00", "#"):
            self.require_plan_line(HOUSE_TEXT + more, 12)
            self.require_plan_line("sign 0\nstarts 0\n" + more, 2)
        for more in ("\n", "x\n", "sign 0\n", " \n", "starts 0\n", "change 5 to 5\n", "good \n", "x\ny"):
            self.require_plan_line(HOUSE_TEXT + more, 12)
        # One more node is none too many; what is wrong goes ahead of what follows the last line end.
        self.require_plan_line(HOUSE_TEXT + "good\n", None)
        self.require_plan_line(HOUSE_TEXT + "good\nx", 13)
        self.require_plan_line("sign 0\nx\ny", 1)

    def test_nodes_that_do_not_come(self):
        self.require_plan_line("sign 0\nstarts 0\nread 0 else 1\n", 3)
        self.require_plan_line("sign 0\nstarts 0\nread 0 1:2 else 0\ngood\n", 4)
        self.require_plan_line("sign 0\nstarts 0\nread 0 1:1 else 0\ngood\n", None)
        self.require_plan_line("sign 0\nstarts 11\n" + "good\n" * 11, 13)
        self.require_plan_line("sign 0\nstarts 11\n" + "good\n" * 12, None)
        # There is never a node 12.
        self.require_plan_line("sign 0\nstarts 12\n" + "good\n" * 12, 1)
        self.require_plan_line("sign 0\nstarts 0 12\n", 1)
        self.require_plan_line("sign 0\nstarts 0\nread 0 else 12\n", 2)
        self.require_plan_line("sign 0\nstarts 0\nread 0 0:12 else 0\n", 2)
        self.require_plan_line("sign 0\nstarts 0\n" + "good\n" * 13, 14)
        self.require_plan_line("sign 0\nstarts 0\n" + "good\n" * 12 + "x\n", 14)
        self.require_plan_line("sign 0\nstarts 0 11\n" + "good\n" * 11 + "read 0 11:0 else 0\n", 13)

    def test_signs_and_changes(self):
        head = "sign 0\n" * 4
        self.require_plan_line(head + "starts 0\ngood\n", None)
        self.require_plan_line(head + "sign 0\n", 4)
        four = "".join(f"change {name} to 0\n" for name in range(4))
        more = "".join(f"change {name} to 0\n" for name in range(4, 8))
        self.require_plan_line("sign 0\n" + four + "starts 0\ngood\n", None)
        self.require_plan_line("sign 0\n" + four + "change 4 to 0\n", 5)
        self.require_plan_line("sign 0\n" + four + "sign 1\n" + more + "sign 2\nstarts 0\ngood\n", None)
        self.require_plan_line("sign 0\n" + four + "sign 1\n" + more + "sign 2\nchange 8 to 0\n", 11)
        self.require_plan_line("change 0 to 0\n", 0)
        self.require_plan_line("starts 0\n", 0)
        self.require_plan_line("good\n", 0)
        self.require_plan_line("sign 0\nread 0 else 0\n", 1)
        for late in ("sign 0", "change 5 to 0", "starts 0"):
            self.require_plan_line(f"sign 0\nstarts 0\n{late}\n", 2)
            self.require_plan_line(f"sign 0\nstarts 0\ngood\n{late}\n", 3)

    def test_names_twice(self):
        self.require_plan_line("sign 0\nchange 5 to 1\nchange 5 to 2\nstarts 0\ngood\n", 2)
        self.require_plan_line("sign 0\nchange 5 to 1\nsign 0\nchange 4 to 1\nchange 5 to 1\nstarts 0\ngood\n", 4)

    def test_what_does_not_ascend(self):
        for starts in ("0 0", "1 0", "0 2 1", "0 1 1", "11 0", "0 10 9"):
            self.require_plan_line(f"sign 0\nstarts {starts}\n", 1)
        for ways in ("0:0 0:0", "1:0 0:0", "0:0 2:0 1:0", "9:0 9:1"):
            self.require_plan_line(f"sign 0\nstarts 0\nread 0 {ways} else 0\n", 2)
        self.require_plan_line("sign 0\nstarts 0\nread 0 0:0 1:0 9:0 else 0\n", None)
        self.require_plan_line("sign 0\nstarts 2 10\n" + "good\n" * 11, None)

    def test_signs_of_reads(self):
        self.require_plan_line("sign 0\nsign 0\nstarts 0\nread 1 else 0\n", None)
        for sign in ("2", "3", "9", "10"):
            self.require_plan_line(f"sign 0\nsign 0\nstarts 0\nread {sign} else 0\n", 3)

    def test_numbers(self):
        for wrong in NO_NUMBERS + ("10", "99", "9" * 400):
            for line in (f"sign {wrong}", f"change {wrong} to 0", f"change 5 to {wrong}"):
                self.require_plan_line(f"sign 0\n{line}\n", 1)
            self.require_plan_line(f"sign 0\nstarts 0\nread 0 {wrong}:0 else 0\n", 2)
            self.require_plan_line(f"sign 0\nstarts 0\nread {wrong} else 0\n", 2)
        for wrong in NO_NUMBERS + ("12", "99", "9" * 400):
            self.require_plan_line(f"sign 0\nstarts {wrong}\n", 1)
            self.require_plan_line(f"sign 0\nstarts 0\nread 0 0:{wrong} else 0\n", 2)
            self.require_plan_line(f"sign 0\nstarts 0\nread 0 else {wrong}\n", 2)
        self.require_plan_line("sign 9\nchange 9 to 9\nstarts 10 11\n" + "read 0 9:11 else 10\n" * 12, None)

    def test_words_and_blanks(self):
        for line in ("", " ", "sign", "sign ", " sign 0", "sign  0", "sign 0 ", "sign 0 0", "Sign 0", "signs 0", "sign 0\r",
                     "sign\t0", "sign 0\x0b", "sign 0\u2028", "sign\u00a00", "change", "change 1", "change 1 to",
                     "change 1 to 2 3", "change 1 2", "change 1 at 2", "change  1 to 2", "change 1 to  2", "change 1 to 2 ",
                     "change to 1 2", "starts", "starts ", "starts  0", "starts 0 ", "starts 0  1", "starts 0,1", "start 0",
                     "good", "misled"):
            self.require_plan_line(f"sign 0\n{line}\n", 1)
        for line in ("", " ", "good ", " good", "Good", "good 0", "end good", "misled ", "bad", "read", "read 0", "read 0 else",
                     "read else 0", "read 0 0", "read 0 else 0 ", "read 0  else 0", "read  0 else 0", "read 0 else  0",
                     "read 0 else 0 0", "read 0 other 0", "read 0 0:0", "read 0 0:0 0", "read 0 0 else 0", "read 0 0: else 0",
                     "read 0 :0 else 0", "read 0 : else 0", "read 0 0:0:0 else 0", "read 0 0 :0 else 0", "read 0 0:0 else",
                     "read 0 0:0  1:0 else 0", "read 0 0:0,1:0 else 0", "read 0 else 0 else 0", "Read 0 else 0",
                     "else 0 read 0", "reads 0 else 0", "good\r", "good\x0c", "read 0 else 0\r"):
            self.require_plan_line(f"sign 0\nstarts 0\n{line}\n", 2)

    def test_other_line_ends(self):
        for end in ("\r\n", "\r", "\x0b", "\u2028", "\x85", ";", " \n", "\n\n"):
            text = HOUSE_TEXT.replace("\n", end)
            self.require_plan_line(text, 0 if end in ("\r\n", " \n") else 1 if end == "\n\n" else 0)

    def test_changed_texts(self):
        chance, lines = random.Random(132), set()
        for _ in range(500):
            text = changed_text(chance, text_of(some_house(chance, 8, 8)), "sign 0\n")
            line = wrong_line(text, can_go_on, is_plan_text)
            self.require_plan_line(text, line)
            lines.add(line)
        self.assertTrue({None, 0, 1, 2, 3, 4, 5} <= lines)

    def test_long_texts(self):
        for text in ("x" * 20000, "\n" * 20000, "sign 0\n" * 2857, " " * 20000, "0:" * 10000, "1" * 20000):
            self.assertEqual(raised(ParseError, parse_plan, text).line, {"s": 4}.get(text[0], 0))
            self.assertEqual(raised(ParseError, parse_regime, text).line, 0)
        text = "sign 0\nstarts 0\nread 0 " + "0:0 " * 4000 + "else 0\n"
        self.assertEqual(raised(ParseError, parse_plan, text).line, 2)


class RegimeLineTest(TextCase):
    def test_lines(self):
        for line in ("", " ", "1", "1 waits", "1 waits for", "1 waits 0", "waits for 0", "1 waits for 0 ", " 1 waits for 0",
                     "1  waits for 0", "1 waits  for 0", "1 waits for  0", "1 waits for 0 0", "1 Waits for 0", "1 drains",
                     "drains 0", "1 drains  0", "1 drains 0 ", "1 drains for 0", "1 drain 0", "1 drains 0\r", "1 drains\t0",
                     "1 waits to 0", "1 waits for 0\x0b", "0 waits for 0", "5 drains 5", "good", "1 drains 0 waits for 2"):
            self.require_regime_line(f"{line}\n", 0)
            self.require_regime_line(f"1 waits for 0\n{line}\n3 drains 2\n", 1)

    def test_numbers(self):
        for wrong in NO_NUMBERS + ("10", "11", "99"):
            for line in (f"{wrong} waits for 0", f"0 waits for {wrong}", f"{wrong} drains 0", f"0 drains {wrong}"):
                self.require_regime_line(f"{line}\n", 0)

    def test_what_does_not_ascend(self):
        for word in ("waits for", "drains"):
            self.require_regime_line(f"1 {word} 0\n1 {word} 0\n", 1)
            self.require_regime_line(f"2 {word} 0\n1 {word} 0\n", 1)
            self.require_regime_line(f"0 {word} 1\n2 {word} 0\n", 1)
            self.require_regime_line(f"2 {word} 0\n0 {word} 1\n2 {word} 1\n1 {word} 0\n", 3)
            self.require_regime_line(f"9 {word} 8\n8 {word} 9\n0 {word} 9\n", 2)
        self.require_regime_line("1 waits for 0\n1 drains 0\n", None)
        self.require_regime_line("9 waits for 8\n1 drains 0\n", None)

    def test_waits_behind_drains(self):
        self.require_regime_line("1 drains 0\n1 waits for 0\n", 1)
        self.require_regime_line("1 waits for 0\n1 drains 0\n2 waits for 0\n", 2)

    def test_without_the_last_line_end_and_with_something_behind(self):
        text = format_regime(ALL_PAIRS[:3], ALL_PAIRS[:2])
        for k in range(1, len(text) + 1):
            self.require_regime_line(text[:k], None if text[k - 1] == "\n" else text[:k].count("\n"))
        for more in (" ", "x", "\r", "1 drains 3"):
            self.require_regime_line(text + more, 5)
        self.require_regime_line(text + "\n", 5)
        self.require_regime_line("x", 0)
        self.require_regime_line("", None)

    def test_ninety_waits_and_ninety_drains(self):
        text = format_regime(ALL_PAIRS, ALL_PAIRS)
        self.require_regime_line(text, None)
        for more in ("0 drains 1\n", "8 drains 9\n", "9 drains 8\n", "0 waits for 1\n"):
            self.require_regime_line(text + more, 180)

    def test_rounds_are_no_matter_of_texts(self):
        self.require_regime_line("1 waits for 0\n0 waits for 1\n0 drains 1\n", None)

    def test_changed_texts(self):
        chance, lines = random.Random(133), set()
        for _ in range(1500):
            text = changed_text(chance, format_regime(some_pairs(chance, 4), some_pairs(chance, 4)), "1 drains 0\n")
            line = wrong_line(text, is_regime_text, is_regime_text)
            self.require_regime_line(text, line)
            lines.add(line)
        self.assertTrue({None, 0, 1, 2, 3, 4, 5} <= lines)


def changed_text(chance, text, more):
    """Return the text with something that is left out, doubled, exchanged, cut off, put in or replaced."""
    lines = text.split("\n")[:-1]
    k, j = [chance.randrange(len(lines)) if lines else 0 for _ in range(2)]
    kind = chance.randrange(8)
    if kind == 0 and lines:
        del lines[k]
    elif kind == 1 and lines:
        lines.insert(k, lines[j])
    elif kind == 2 and lines:
        lines[k], lines[j] = lines[j], lines[k]
    text = "".join(line + "\n" for line in lines)
    at = chance.randint(0, len(text))
    if kind == 3:
        return text[:at]
    if kind == 4:
        return text[:at] + chance.choice((" ", "0", "1", "\n", "\r", ":", "x", "\u0660")) + text[at:]
    if kind == 5:
        return text[:at] + chance.choice(("0", "9", " ", "\n", "5")) + text[at + 1:]
    if kind == 6:
        return text[:at] + text[at + 1:]
    return text + more if kind == 7 else text


if __name__ == "__main__":
    unittest.main()
