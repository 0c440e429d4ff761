"""Points [2], [7], [19], [27] and [28]: grammars and workbenches as texts."""

import random
import re
import unittest

from downwords.errors import InvalidText, NothingToRedo, NothingToUndo
from downwords.grammars import Grammar
from downwords.notation import format_grammar, format_workbench, parse_grammar, parse_workbench
from downwords.products import format_product
from downwords.workbench import Workbench
from grammar_support import layered_grammars, some_grammars
from support import NOT_TEXTS, ODD_TEXTS, all_factors, raised
from workbench_support import PAIRS, SINGLES, needed, slow_is_definition, some_definition, with_tuples

NAMES = ["a", "aa", "ab", "b", "c", "d", "words", "x", "xy", "yyyyyyyy", "z"]


def is_alphabet_line(line):
    return re.fullmatch("[a-z]{1,3}", line) is not None and list(line) == sorted(set(line))


def wrong_grammar_line(text):
    """The first line up to which there is no written form of a grammar, or None."""
    alphabet, *lines = text.split("\n")
    if not is_alphabet_line(alphabet):
        return 0
    symbols = set()
    for number, line in enumerate(lines, start=1):
        match = re.fullmatch(f"([A-Z]) -> (-|[{alphabet}A-Z]{{1,3}})", line)
        symbols |= {sign for sign in line if sign.isupper()}
        if match is None or number > 16 or len(symbols) > 6:
            return number
    return None


def read_product(part):
    """The factors that are written in a part, or None."""
    if part == "-":
        return ()
    if not re.fullmatch(r"([a-z]\?|\{[a-z]+\}\*)+", part):
        return None
    return tuple(("opt", sign[0]) if sign[1] == "?" else ("star", sign[1:-2])
                 for sign in re.findall(r"[a-z]\?|\{[a-z]+\}\*", part))


def read_definition(alphabet, line):
    """The name and the definition of a line, or None."""
    match = re.fullmatch(r"([a-z]{1,8}) = ([a-z]+)((?: [^ \n]+)*)", line)
    if match is None:
        return None
    name, kind, parts = match[1], match[2], match[3].split()
    if kind == "products":
        definition = (kind, [read_product(part) for part in parts])
        if not all(row is not None and set(row) <= set(all_factors(alphabet)) for row in definition[1]):
            return None
    elif kind in ("words", "avoid"):
        definition = (kind, ["" if part == "-" else part for part in parts])
    elif kind == "grammar" and parts:
        if not all(re.fullmatch("[A-Z]>(-|[a-zA-Z]{1,3})", part) for part in parts[1:]):
            return None
        definition = (kind, [(part[0], part[2:].strip("-")) for part in parts[1:]], parts[0])
    else:
        definition = (kind, *parts)
    return (name, definition) if slow_is_definition(alphabet, definition) else None


def wrong_workbench_line(text):
    """The first line up to which there is no written form of a workbench, or None."""
    alphabet, *lines = text.split("\n")
    if not is_alphabet_line(alphabet):
        return 0
    definitions = {}
    for number, line in enumerate(lines, start=1):
        found = read_definition(alphabet, line)
        if found is None or number > 24 or definitions and found[0] <= max(definitions):
            return number
        definitions[found[0]] = found[1]
        if any(name in needed(definitions, name) for name in definitions):
            return number
    return None


def changed_text(source, text, signs):
    """The text with one or two characters or lines changed, inserted, removed, repeated or exchanged."""
    for _ in range(source.choice([1, 1, 2])):
        lines = text.split("\n")
        at, place = source.randrange(len(lines)), source.randrange(len(text) + 1)
        other = source.randrange(len(lines))
        turn = source.randrange(8)
        if turn == 0:
            text = text[:place] + source.choice(signs) + text[place + 1:]
        elif turn == 1:
            text = text[:place] + source.choice(signs) + text[place:]
        elif turn == 2:
            text = text[:place] + text[place + 1:]
        elif turn == 3:
            text = text[:place]
        else:
            if turn == 4:
                lines.insert(other, lines[at])
            elif turn == 5:
                del lines[at]
            elif turn == 6:
                lines[at], lines[other] = lines[other], lines[at]
            else:
                row = lines[at].split(" ")
                row.insert(source.randrange(len(row) + 1), source.choice(row + [""]))
                lines[at] = " ".join(row)
            text = "\n".join(lines)
    return text


class TestGrammars(unittest.TestCase):

    def test_examples(self):
        self.assertEqual(format_grammar(Grammar("ab", [("S", "aSb"), ("S", "")])), "ab\nS -> aSb\nS -> -")
        self.assertEqual(raised(InvalidText, parse_grammar, "ab\nS -> a\nS -> c\nS -> -"), {"line": 2})

    def test_there_and_back(self):
        for grammar in some_grammars("ab", 80, 170) + some_grammars("xyz", 40, 171) + layered_grammars("abc", 40, 172):
            text = format_grammar(grammar)
            self.assertEqual(parse_grammar(text), grammar)
            self.assertEqual(format_grammar(parse_grammar(text)), text)
            self.assertEqual(len(text.split("\n")), 1 + len(grammar.productions()))
            self.assertIsNone(wrong_grammar_line(text))

    def test_without_productions(self):
        for alphabet in ["a", "ab", "xyz"]:
            self.assertEqual(format_grammar(Grammar(alphabet, [])), alphabet)
            self.assertEqual(parse_grammar(alphabet), Grammar(alphabet, []))

    def test_no_texts(self):
        for thing in NOT_TEXTS + [Grammar("ab", []), ["ab"], ("ab",)]:
            self.assertEqual(raised(InvalidText, parse_grammar, thing), {"line": 0})

    def test_by_hand(self):
        lines = {
            "": 0, "\n": 0, "ba": 0, "abcd": 0, "AB": 0, "ab ": 0, " ab": 0, "S -> a": 0, "-": 0, "ab\n": 1, "ab\n\n": 1,
            "ab\nS -> a\n": 2, "ab\nS -> a\n\nS -> b": 2, "ab\nS-> a": 1, "ab\nS ->a": 1, "ab\nS  -> a": 1, "ab\nS ->  a": 1,
            "ab\nS -> a ": 1, "ab\n S -> a": 1, "ab\nS -> ": 1, "ab\nS ->": 1, "ab\nS -> a-": 1, "ab\nS -> --": 1,
            "ab\nS -> aaaa": 1, "ab\ns -> a": 1, "ab\nST -> a": 1, "ab\n-> a": 1, "ab\nS -> a b": 1, "ab\nS -> a -> b": 1,
            "ab\nS > a": 1, "ab\nS>a": 1, "ab\nS -> a|b": 1, "ab\nS -> c": 1, "abc\nS -> c": None, "ab\nS -> Z": None,
            "ab\nS -> a\nS": 2, "a\nS -> -\nT -> STU\nS -> -": None, "c\nS -> ccc": None, "ab\nab": 1, "ab\nS -> \nS -> -": 1,
        }
        for text, line in lines.items():
            self.assertEqual(wrong_grammar_line(text), line, text)
            self.assertEqual(raised(InvalidText, parse_grammar, text), None if line is None else {"line": line}, text)

    def test_limits(self):
        for many in [15, 16, 17, 20]:
            text = "\n".join(["ab"] + ["S -> a"] * many)
            self.assertEqual(raised(InvalidText, parse_grammar, text), None if many <= 16 else {"line": 17})
        for order in ["ABCDEFG", "GFEDCBA"]:
            text = "\n".join(["ab"] + [f"{symbol} -> -" for symbol in order])
            self.assertEqual(raised(InvalidText, parse_grammar, text), {"line": 7})
            self.assertIsNone(raised(InvalidText, parse_grammar, text[:-7]))
        self.assertEqual(raised(InvalidText, parse_grammar, "ab\nA -> BCD\nE -> FGA"), {"line": 2})

    def test_odd_texts(self):
        for text in ODD_TEXTS:
            self.assertEqual(raised(InvalidText, parse_grammar, text), {"line": wrong_grammar_line(text)})

    def test_changed_texts(self):
        source = random.Random(173)
        seen = set()
        for alphabet in ["a", "ab", "abc"]:
            for grammar in some_grammars(alphabet, 400, 174):
                text = changed_text(source, format_grammar(grammar), "abcSTABCDEFG ->\n-")
                line = wrong_grammar_line(text)
                if line is None:
                    self.assertEqual(format_grammar(parse_grammar(text)), text)
                else:
                    self.assertEqual(raised(InvalidText, parse_grammar, text), {"line": line}, text)
                seen.add(line)
        self.assertLessEqual({None, 0, 1, 2, 3, 10}, seen)


def some_workbench(source, alphabet, many):
    bench = Workbench(alphabet)
    definitions = {}
    for _ in range(many):
        name, definition = source.choice(NAMES), some_definition(source, alphabet, NAMES)
        trial = {**definitions, name: definition}
        if name not in needed(trial, name):
            bench.define(name, definition)
            definitions = trial
    return bench


class TestWorkbenches(unittest.TestCase):

    def test_examples(self):
        bench = Workbench("ab")
        bench.define("x", ("grammar", [("S", "aSb"), ("S", "")], "S"))
        bench.define("abc", ("words", ["", "ab"]))
        self.assertEqual(format_workbench(bench), "ab\nabc = words - ab\nx = grammar S S>aSb S>-")
        text = "ab\nx = union y z\ny = star x\nz = words -"
        self.assertEqual(raised(InvalidText, parse_workbench, text), {"line": 2})

    def test_all_kinds(self):
        rows = [
            (("products", [()]), "products -"), (("products", []), "products"),
            (("products", [(("opt", "a"), ("star", "ab")), (("star", "b"),), ()]), "products a?{ab}* {b}* -"),
            (("words", []), "words"), (("words", [""]), "words -"), (("words", ("ab", "", "ab")), "words ab - ab"),
            (("avoid", []), "avoid"), (("avoid", ["", "b"]), "avoid - b"), (("expression", "(a|b)*?"), "expression (a|b)*?"),
            (("grammar", [("S", "")], "S"), "grammar S S>-"), (("grammar", [("S", "aT"), ("S", "")], "T"), "grammar T S>aT S>-"),
            (("union", "x", "yy"), "union x yy"), (("meet", "x", "x"), "meet x x"), (("concat", "b", "a"), "concat b a"),
            (("residual", "p", "q"), "residual p q"), (("reverse", "union"), "reverse union"), (("star", "x"), "star x"),
        ]
        for definition, form in rows:
            bench = Workbench("ab")
            bench.define("name", definition)
            self.assertEqual(format_workbench(bench), f"ab\nname = {form}")
            read = parse_workbench(f"ab\nname = {form}")
            self.assertEqual(read, bench)
            self.assertEqual(read.definition("name"), with_tuples(definition))

    def test_there_and_back(self):
        source = random.Random(175)
        kinds = set()
        for alphabet in ["a", "ab", "abc", "xyz"]:
            for _ in range(50):
                bench = some_workbench(source, alphabet, source.randrange(14))
                text = format_workbench(bench)
                self.assertIsNone(wrong_workbench_line(text), text)
                read = parse_workbench(text)
                self.assertEqual(read, bench)
                self.assertEqual(read.alphabet(), alphabet)
                self.assertEqual(format_workbench(read), text)
                self.assertEqual(raised(NothingToUndo, read.undo), {})
                self.assertEqual(raised(NothingToRedo, read.redo), {})
                kinds |= {bench.definition(name)[0] for name in bench.names()}
                self.assertEqual([line.split(" ")[0] for line in text.split("\n")[1:]], bench.names())
        self.assertEqual(kinds, {*PAIRS, *SINGLES, "products", "words", "avoid", "expression", "grammar"})

    def test_a_workbench_that_was_read_goes_on(self):
        bench = parse_workbench("ab\nx = star y\ny = words ab")
        self.assertEqual(str(bench.value("x")), "ab: {ab}*")
        bench.define("y", ("words", ["a"]))
        self.assertEqual(str(bench.value("x")), "ab: {a}*")
        bench.undo()
        self.assertEqual(format_workbench(bench), "ab\nx = star y\ny = words ab")
        self.assertEqual(raised(NothingToUndo, bench.undo), {})
        bench.redo()
        self.assertEqual(format_workbench(bench), "ab\nx = star y\ny = words a")

    def test_without_definitions(self):
        self.assertEqual(format_workbench(Workbench("abc")), "abc")
        self.assertEqual(parse_workbench("abc"), Workbench("abc"))

    def test_no_texts(self):
        for thing in NOT_TEXTS + [Workbench("ab"), ["ab"], ("ab",)]:
            self.assertEqual(raised(InvalidText, parse_workbench, thing), {"line": 0})

    def test_by_hand(self):
        lines = {
            "": 0, "\n": 0, "ba": 0, "ab ": 0, "x = words": 0, "ab\n": 1, "ab\nx": 1, "ab\nx =": 1, "ab\nx = ": 1, "ab\nx = words": None,
            "ab\nx = words ": 1, "ab\nx = words  a": 1, "ab\nx  = words": 1, "ab\nx =  words": 1, "ab\n x = words": 1, "ab\nx=words": 1,
            "ab\nx = words a ": 1, "ab\nx = words a\n": 2, "ab\nx = words c": 1, "ab\nx = words A": 1, "ab\nx = words --": 1,
            "ab\nX = words": 1, "ab\n = words": 1, "ab\nabcdefgh = words": None, "ab\nabcdefghi = words": 1, "ab\nx = Words": 1,
            "ab\nx = word": 1, "ab\nx = intersection y z": 1, "ab\nx = union y": 1, "ab\nx = union y z z": 1, "ab\nx = star": 1,
            "ab\nx = star x": 1, "ab\nx = star y z": 1, "ab\nx = star y = z": 1, "ab\nx = star Y": 1, "ab\nx = products a": 1,
            "ab\nx = products c?": 1, "ab\nx = products {ba}*": 1, "ab\nx = products a?{a}*": None, "ab\nx = products a? -": None,
            "ab\nx = products {}*": 1, "ab\nx = products -a?": 1, "ab\nx = products a?-": 1, "ab\nx = products abc": 1,
            "ab\nx = expression": 1, "ab\nx = expression a b": 1, "ab\nx = expression -": 1, "ab\nx = expression ()": None,
            "ab\nx = expression (": 1, "ab\nx = expression " + "a" * 60: None, "ab\nx = expression " + "a" * 61: 1,
            "ab\nx = grammar": 1, "ab\nx = grammar S": 1, "ab\nx = grammar S S>": 1, "ab\nx = grammar S S>-": None,
            "ab\nx = grammar T S>-": 1, "ab\nx = grammar S>- S": 1, "ab\nx = grammar S S>a S>aSb": None, "ab\nx = grammar S S>aaaa": 1,
            "ab\nx = grammar S S->a": 1, "ab\nx = grammar S S>a>b": 1, "ab\nx = grammar S S>c": 1, "ab\nx = grammar S S>a-": 1,
            "ab\nx = grammar S S": 1, "ab\nx = grammar - S>-": 1, "ab\nx = avoid - a": None, "ab\nx = words\nx = words": 2,
            "ab\ny = words\nx = words": 2, "ab\na = words\nab = words\nb = words": None, "ab\nab = words\na = words": 2,
            "ab\nx = star y\ny = star x": 2, "ab\nx = star y\ny = star z\nz = union a x": 3, "ab\nx = star y\n\ny = words": 2,
        }
        for text, line in lines.items():
            self.assertEqual(wrong_workbench_line(text), line, text)
            self.assertEqual(raised(InvalidText, parse_workbench, text), None if line is None else {"line": line}, text)

    def test_limits(self):
        names = sorted("abcdefghijklmnopqrstuvwxyz")
        for many in range(20, 27):
            text = "\n".join(["ab"] + [f"{name} = words" for name in names[:many]])
            self.assertEqual(raised(InvalidText, parse_workbench, text), None if many <= 24 else {"line": 25})
        for many in [15, 16, 17]:
            text = "ab\nx = grammar S" + " S>a" * many
            self.assertEqual(raised(InvalidText, parse_workbench, text), None if many <= 16 else {"line": 1})
        for symbols in ["ABCDEF", "ABCDEFG"]:
            text = "ab\nx = grammar A" + "".join(f" {symbol}>-" for symbol in symbols)
            self.assertEqual(raised(InvalidText, parse_workbench, text), None if len(symbols) <= 6 else {"line": 1})

    def test_odd_texts(self):
        for text in ODD_TEXTS:
            self.assertEqual(raised(InvalidText, parse_workbench, text), {"line": wrong_workbench_line(text)})

    def test_changed_texts(self):
        source = random.Random(176)
        seen = {"right": 0, "wrong": 0}
        for alphabet in ["a", "ab", "abc"]:
            for _ in range(500):
                bench = some_workbench(source, alphabet, source.randrange(1, 9))
                text = changed_text(source, format_workbench(bench), "abcxyz =\n->ST()|*+?{}- ")
                line = wrong_workbench_line(text)
                if line is None:
                    self.assertEqual(format_workbench(parse_workbench(text)), text)
                else:
                    self.assertEqual(raised(InvalidText, parse_workbench, text), {"line": line}, text)
                seen["right" if line is None else "wrong"] += 1
        self.assertGreater(min(seen.values()), 200, seen)

    def test_spaces(self):
        source = random.Random(177)
        for _ in range(40):
            bench = some_workbench(source, "ab", 6)
            lines = format_workbench(bench).split("\n")
            for at, line in enumerate(lines):
                for other in [line + " ", " " + line, line.replace(" ", "  ", 1) if " " in line else line + "  "]:
                    text = "\n".join(lines[:at] + [other] + lines[at + 1:])
                    self.assertEqual(raised(InvalidText, parse_workbench, text), {"line": at})

    def test_long_products(self):
        product = (("opt", "a"), ("star", "ab"), ("star", "b")) * 30
        bench = Workbench("ab")
        bench.define("x", ("products", [product]))
        self.assertEqual(format_workbench(bench), "ab\nx = products " + format_product(product))
        self.assertEqual(parse_workbench(format_workbench(bench)), bench)


if __name__ == "__main__":
    unittest.main()
