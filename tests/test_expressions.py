"""Point [18]: closures of expressions, invalid expressions and limits."""

import itertools
import random
import unittest

from downwords.errors import DownwordsError, InvalidExpression, TooMany
from downwords.expressions import closure_of_expression
from downwords.languages import Language, closure_of_words
from downwords.operations import concatenation, reversal, star, union
from expression_support import (
    backwards, closure_words, exact_words, is_expression, numbers_of_products, some_choices, text_of, wrong_index,
)
from support import NOT_TEXTS, all_subwords, all_words, check_one_list, raised

MOST = {"a": 7, "ab": 5, "abc": 4, "xyz": 4}

# An item of five products.
FIVE = "(aa|ab|ba|bb|c)"


def closure_or_none(alphabet, text):
    """The closure, or None if it is too large."""
    try:
        return closure_of_expression(alphabet, text)
    except TooMany as error:
        assert error.limit == 50
        return None


class TestExamples(unittest.TestCase):

    def test_closure(self):
        self.assertEqual(str(closure_of_expression("ab", "(ab)*b|a+b")), "ab: {ab}*")

    def test_wrong(self):
        self.assertEqual(raised(InvalidExpression, closure_of_expression, "ab", "(a|)b"), {"index": 3})

    def test_by_hand(self):
        forms = {
            "a": "ab: a?", "()": "ab: -", "()*": "ab: -", "(())+?": "ab: -", "ab": "ab: a?b?",
            "a*b": "ab: {a}*b?", "ab*": "ab: a?{b}*", "(ab)*": "ab: {ab}*", "a|b": "ab: a? + b?",
            "ab|ba": "ab: a?b? + b?a?", "a|b*": "ab: a? + {b}*", "(a|b)*": "ab: {ab}*", "a+": "ab: {a}*",
            "a?": "ab: a?", "(ab)?": "ab: a?b?", "()a()": "ab: a?", "a|()": "ab: a?", "a|a": "ab: a?",
            "a(a|b)b": "ab: a?a?b? + a?b?b?", "((a))": "ab: a?", "a*b*|b*a*": "ab: {a}*{b}* + {b}*{a}*",
            "a*?b": "ab: {a}*b?", "a?*b": "ab: {a}*b?", "aab|a*": "ab: a?a?b? + {a}*",
        }
        for text, form in forms.items():
            self.assertEqual(str(closure_of_expression("ab", text)), form, text)


class TestClosures(unittest.TestCase):

    def test_against_short_words(self):
        for alphabet, depth, many in [("a", 2, 40), ("ab", 2, 150), ("abc", 2, 150), ("ab", 3, 100), ("xyz", 4, 50)]:
            words = all_words(alphabet, MOST[alphabet])
            for choice in some_choices(random.Random(1), alphabet, depth, many):
                found = closure_or_none(alphabet, text_of(choice))
                if found is not None:
                    check_one_list(self, found)
                    self.assertEqual(found.alphabet(), alphabet)
                    expected = closure_words(choice, MOST[alphabet])
                    self.assertEqual({word for word in words if found.contains(word)}, expected, text_of(choice))

    def test_all_short_texts(self):
        for length in range(1, 6):
            for signs in itertools.product("ab()|*?", repeat=length):
                text = "".join(signs)
                expected = wrong_index("ab", text)
                found = raised(InvalidExpression, closure_of_expression, "ab", text)
                self.assertEqual(found, None if expected is None else {"index": expected}, text)

    def test_without_repeating(self):
        for alphabet in ["a", "ab", "abc"]:
            for choice in some_choices(random.Random(2), alphabet, 3, 80, signs="?"):
                found = closure_or_none(alphabet, text_of(choice))
                if found is not None:
                    words = exact_words(choice)
                    self.assertEqual(found, closure_of_words(alphabet, sorted(words)), text_of(choice))
                    subwords = set().union(*[all_subwords(word) for word in words if len(word) < 12])
                    self.assertTrue(all(found.contains(word) for word in subwords))

    def test_two_put_together(self):
        for alphabet in ["ab", "abc"]:
            source = random.Random(3)
            choices = some_choices(source, alphabet, 2, 200)
            texts = [text for text in map(text_of, choices) if len(text) <= 27 and closure_or_none(alphabet, text)]
            self.assertGreater(len(texts), 50)
            for one, other in zip(texts, texts[1:]):
                first, second = closure_of_expression(alphabet, one), closure_of_expression(alphabet, other)
                both = closure_or_none(alphabet, f"({one})({other})")
                expected = concatenation(first, second)
                if len(expected.products()) <= 50:
                    self.assertEqual(both, expected)
                else:
                    self.assertIsNone(both)
                either = closure_or_none(alphabet, f"{one}|{other}")
                if either is not None:
                    self.assertEqual(either, union(first, second))
                for sign in ["*", "+", "*?", "?+", "++"]:
                    self.assertEqual(closure_of_expression(alphabet, f"({one}){sign}"), star(first))
                for sign in ["", "?", "??"]:
                    self.assertEqual(closure_of_expression(alphabet, f"({one}){sign}"), first)
                self.assertEqual(closure_of_expression(alphabet, f"(({one}))"), first)
                self.assertEqual(closure_of_expression(alphabet, f"()({one})()"), first)

    def test_backwards(self):
        for alphabet in ["ab", "abc"]:
            for choice in some_choices(random.Random(4), alphabet, 3, 80):
                one = closure_or_none(alphabet, text_of(choice))
                other = closure_or_none(alphabet, text_of(backwards(choice)))
                if one is not None and other is not None:
                    self.assertEqual(reversal(one), other, text_of(choice))

    def test_several_postfix_operators(self):
        for length in range(4):
            for signs in itertools.product("*+?", repeat=length):
                sign = "".join(signs)
                repeats = "*" in sign or "+" in sign
                self.assertEqual(
                    str(closure_of_expression("abc", f"a(bc){sign}a")), f"abc: a?{'{bc}*' if repeats else 'b?c?'}a?")
                self.assertEqual(
                    str(closure_of_expression("abc", f"ab{sign}")), f"abc: a?{'{b}*' if repeats else 'b?'}")
                self.assertEqual(str(closure_of_expression("abc", f"(){sign}")), "abc: -")

    def test_operators_bind_tightest(self):
        same = [("ab*", "a(b*)"), ("ab|ba", "(ab)|(ba)"), ("a|b*", "a|(b*)"), ("a|bc", "a|(bc)"), ("ab+c", "a(b+)c")]
        other = [("ab*", "(ab)*"), ("ab|ba", "a(b|b)a"), ("a|b*", "(a|b)*"), ("a|bc", "(a|b)c")]
        for one, two in same:
            self.assertEqual(closure_of_expression("abc", one), closure_of_expression("abc", two))
        for one, two in other:
            self.assertNotEqual(closure_of_expression("abc", one), closure_of_expression("abc", two))

    def test_many_levels(self):
        for depth in range(30):
            self.assertEqual(str(closure_of_expression("ab", "(" * depth + "a" + ")" * depth)), "ab: a?")
        for depth in range(1, 31):
            self.assertEqual(str(closure_of_expression("ab", "(" * depth + ")" * depth)), "ab: -")
        self.assertEqual(str(closure_of_expression("ab", "(a|" * 14 + "b" + ")" * 14)), "ab: a? + b?")
        found = closure_of_expression("abc", "(c" * 18 + "(ab)*" + ")" * 18)
        self.assertEqual(str(found), "abc: " + "c?" * 18 + "{ab}*")

    def test_sixty_characters(self):
        word = "ab" * 30
        self.assertEqual(closure_of_expression("ab", word), closure_of_words("ab", [word]))
        self.assertEqual(str(closure_of_expression("ab", "a*" * 30)), "ab: {a}*")
        self.assertEqual(closure_of_expression("ab", "a*b" * 20).products(), [(("star", "a"), ("opt", "b")) * 20])
        self.assertEqual(str(closure_of_expression("ab", "a" + "?" * 59)), "ab: a?")

    def test_the_alphabet_counts(self):
        self.assertNotEqual(closure_of_expression("ab", "a"), closure_of_expression("abc", "a"))
        self.assertEqual(closure_of_expression("abc", "a").alphabet(), "abc")


class TestInvalid(unittest.TestCase):

    def check_text(self, alphabet, text):
        expected = wrong_index(alphabet, text)
        try:
            closure_of_expression(alphabet, text)
            found = None
        except InvalidExpression as error:
            found = error.index
        except TooMany:
            found = None
        self.assertEqual(found, expected, (alphabet, text))
        return expected

    def test_no_texts(self):
        for thing in NOT_TEXTS:
            self.assertEqual(raised(InvalidExpression, closure_of_expression, "ab", thing), {"index": 0})
        for thing in [["a"] * 70, ("a",) * 70, [None] * 61]:
            self.assertEqual(raised(InvalidExpression, closure_of_expression, "ab", thing), {"index": 0})

    def test_the_empty_text(self):
        self.assertEqual(raised(InvalidExpression, closure_of_expression, "ab", ""), {"index": 0})

    def test_too_long(self):
        for text in ["a" * 61, "b" * 200, ")" * 61, "(" * 61, "c" * 61, " " * 61, "\n" * 100, "(a|b)" * 13,
                     "(" * 31 + "a" + ")" * 31, "?" + "a" * 60, "a" * 60 + "|"]:
            self.assertEqual(raised(InvalidExpression, closure_of_expression, "ab", text), {"index": 60})

    def test_by_hand(self):
        indexes = {
            "*": 0, "|": 0, ")": 0, "(": 1, "a|": 2, "|a": 0, "a||b": 2, "(|a)": 1, "(a|": 3, "(a|)": 3, "a)": 1,
            "(a": 2, "((a)": 4, "(a))": 3, "()": None, "()(": 3, "a(": 2, "a()": None, "(*)": 1, "a*|*": 3, "c": 0,
            "a c": 1, "ac": 1, "A": 0, "a\n": 1, "aB": 1, "(()": 3, "(()|)": 4, "()|()": None, "a-": 1, "{a}*": 0,
        }
        for text, index in indexes.items():
            self.assertEqual(wrong_index("ab", text), index, text)
            self.check_text("ab", text)

    def test_the_slow_way_knows_expressions(self):
        for alphabet in ["a", "ab", "abc", "xyz"]:
            for choice in some_choices(random.Random(5), alphabet, 3, 30):
                self.assertTrue(is_expression(alphabet, text_of(choice)))

    def test_changed_texts(self):
        source = random.Random(6)
        seen = set()
        for alphabet in ["a", "ab", "abc", "xyz"]:
            signs = "abcdxyz()|*+?()|AZ 0-{}~\n."
            for choice in some_choices(source, alphabet, 3, 250):
                text = text_of(choice)
                for _ in range(source.choice([1, 1, 2, 3])):
                    at = source.randrange(len(text) + 1)
                    text = source.choice([
                        text[:at] + source.choice(signs) + text[at + 1:], text[:at] + source.choice(signs) + text[at:],
                        text[:at] + source.choice("()|*+?") + text[at:], text[:at] + text[at + 1:], text[:at],
                    ])
                index = self.check_text(alphabet, text)
                seen.add("right" if index is None else "end" if index == len(text) else "middle")
        self.assertEqual(seen, {"right", "end", "middle"})

    def test_cut_texts(self):
        for choice in some_choices(random.Random(7), "ab", 3, 15):
            text = text_of(choice)
            for end in range(len(text)):
                self.check_text("ab", text[:end])
                self.check_text("ab", text[end:])

    def test_every_character(self):
        for code in [10] + [code for code in range(32, 127) if code != 37]:
            sign = chr(code)
            for text in [sign, "a" + sign, "(" + sign, "a|" + sign, "()" + sign, "(a" + sign, "(a)*" + sign + "b"]:
                expected = wrong_index("ab", text)
                found = raised(InvalidExpression, closure_of_expression, "ab", text)
                self.assertEqual(found, None if expected is None else {"index": expected}, text)

    def test_many_levels(self):
        for depth in range(1, 61):
            self.assertEqual(raised(InvalidExpression, closure_of_expression, "ab", "(" * depth), {"index": depth})
        for depth in range(1, 31):
            for more in range(0, depth):
                text = "(" * depth + "a" + ")" * more
                self.assertEqual(raised(InvalidExpression, closure_of_expression, "ab", text), {"index": len(text)})
            if depth < 30:
                text = "(" * depth + "a" + ")" * (depth + 1)
                expected = 2 * depth + 1 if len(text) <= 60 else 60
                self.assertEqual(raised(InvalidExpression, closure_of_expression, "ab", text), {"index": expected})

    def test_a_longer_expression_counts(self):
        # It would have more than 60 characters, but the text itself has not.
        for text in ["(" * 60, "a" * 59 + "|", "(a" * 30, "(" * 31 + "a" * 29]:
            self.assertEqual(raised(InvalidExpression, closure_of_expression, "ab", text), {"index": 60})
        for text in ["(" * 40 + ")" * 10, "(a" * 20]:
            self.assertEqual(raised(InvalidExpression, closure_of_expression, "ab", text), {"index": len(text)})

    def test_errors_are_the_program_s(self):
        for text in ["", "*", None]:
            with self.assertRaises(DownwordsError):
                closure_of_expression("ab", text)


class TestLimits(unittest.TestCase):

    def check_choice(self, alphabet, choice):
        expected, numbers = numbers_of_products(choice, alphabet)
        found = closure_or_none(alphabet, text_of(choice))
        if max(numbers) > 50:
            self.assertIsNone(found, text_of(choice))
        else:
            self.assertEqual(found, expected, text_of(choice))
        return max(numbers), len(expected.products())

    def test_drawn_near_the_limit(self):
        source = random.Random(8)
        letters = {sign: [[(sign, "")]] for sign in "abc"}
        pool = [
            [[("a", "")], [("b", "")]], [[("a", "")], [("b", "")], [("c", "")]], letters["a"], letters["c"],
            [[("a", ""), ("b", "")], [("b", ""), ("a", "")], [("c", "*")]], [[("a", "*")], [("b", "*")]],
            [[("a", "*"), ("b", "*")], [("c", "")]], [[("a", ""), ("a", "")], [("a", ""), ("b", "")], [("c", "")]],
        ]
        seen = {"over": 0, "under": 0, "less later": 0}
        for _ in range(600):
            rows = []
            for _ in range(source.choice([1, 1, 2])):
                row = [(source.choice(pool), source.choice(["", "", "", "", "", "?", "*"])) for _ in range(8)]
                rows.append(row[:source.randrange(2, 9)])
            if source.random() < 0.4:
                rows = [[(rows, source.choice(["", "*", "?"])), ("a", "")]]
            if len(text_of(rows)) <= 60:
                most, last = self.check_choice("abc", rows)
                seen["over" if most > 50 else "under"] += 1
                seen["less later"] += most > 50 and last <= 50
        self.assertGreater(min(seen.values()), 3, seen)

    def test_exactly_fifty(self):
        fifty = closure_of_expression("abc", FIVE + FIVE + "(a|b)")
        self.assertEqual(len(fifty.products()), 50)
        self.assertEqual(len(closure_of_expression("abc", f"({FIVE}{FIVE}(a|b))").products()), 50)
        self.assertEqual(len(closure_of_expression("abc", f"{FIVE}{FIVE}(a|b)c*").products()), 50)
        self.assertIsNone(closure_or_none("abc", FIVE + FIVE + "(a|b|c)"))

    def test_one_more_than_fifty(self):
        # 50 products and an alternative that is in none of them, and one that is.
        fifty = FIVE + FIVE + "(a|b)"
        self.assertEqual(len(closure_of_expression("abc", fifty + "|cc").products()), 50)
        self.assertIsNone(closure_or_none("abc", fifty + "|ccc"))
        self.assertIsNone(closure_or_none("abc", f"({fifty}|ccc)*"))
        self.assertEqual(str(closure_of_expression("abc", f"{fifty}|(a|b|c)*")), "abc: {abc}*")

    def test_less_remains_later(self):
        six = "(a|b)" * 6
        for text in [six, f"({six})*", six + "(a|b)*", f"({six}|(a|b)*)", f"{six}|(a|b)*", f"({six})?", six + "?"]:
            self.assertIsNone(closure_or_none("ab", text), text)
        self.assertIsNone(closure_or_none("ab", f"(a|b)*({six})"))
        self.assertIsNone(closure_or_none("ab", f"(a|b)*|{six}"))

    def test_items_in_another_place(self):
        six = "(a|b)" * 6
        self.assertEqual(str(closure_of_expression("ab", "(a|b)*" + six)), "ab: {ab}*")
        self.assertEqual(str(closure_of_expression("ab", "(a|b)*" + "(a|b)" * 10)), "ab: {ab}*")
        self.assertEqual(len(closure_of_expression("ab", "(a|b)" * 5).products()), 32)
        self.assertEqual(str(closure_of_expression("ab", "(a|b)?(a|b)*" + six)), "ab: {ab}*")

    def test_only_the_whole_union_counts(self):
        # The first two alternatives together have 64 products, the whole has one.
        rows = ["a" + "(a|b)" * 5, "b" + "(a|b)" * 5, "(a|b)*"]
        self.assertIsNone(closure_or_none("ab", "|".join(rows[:2]) + "|a"))
        self.assertEqual(str(closure_of_expression("ab", "|".join(rows))), "ab: {ab}*")

    def test_invalid_comes_first(self):
        seven = "(a|b)" * 7
        for text, index in [(seven + "|", 36), (seven + ")", 35), (f"({seven}", 36), (f"({seven})*c", 38)]:
            self.assertEqual(raised(InvalidExpression, closure_of_expression, "ab", text), {"index": index})
        self.assertEqual(raised(InvalidExpression, closure_of_expression, "ab", "(a|b)" * 13), {"index": 60})

    def test_the_limit_is_a_field(self):
        self.assertEqual(raised(TooMany, closure_of_expression, "ab", "(a|b)" * 6), {"limit": 50})


class TestNewObjects(unittest.TestCase):

    def test_lists_are_new(self):
        found = closure_of_expression("ab", "a|b")
        found.products().clear()
        self.assertEqual(found, Language("ab", [(("opt", "a"),), (("opt", "b"),)]))
        self.assertEqual(found, closure_of_expression("ab", "a|b"))


if __name__ == "__main__":
    unittest.main()
