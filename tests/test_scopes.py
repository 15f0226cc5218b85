"""[5.1] to [5.5] and all that stands below "Stage 5: scopes"."""

import unittest
from itertools import product
from random import Random

from odd_values import ODD_VALUES, odd_values_but
from pagewright.base.glue import Glue
from pagewright.errors import (InvalidGlue, InvalidLength, InvalidNumber, InvalidOperation, InvalidRow, InvalidScope, InvalidSort,
                               InvalidToken, TooMany)
from pagewright.macro import scopes as module
from pagewright.macro.macros import Macro
from pagewright.macro.scopes import KINDS, Scope
from pagewright.text.sorts import Sorts

X, HI, BLANK = ("sign", "x", "letter"), ("word", "hi"), ("sign", " ", "blank")
LEFT, RIGHT = ("sign", "{", "open"), ("sign", "}", "close")
ACTIVE = ("sign", "~", "active")
PLACES = (("meaning", HI), ("meaning", ACTIVE), ("number", 0), ("number", 255), ("length", 3), ("glue", 3), ("row", 3),
          ("sort", "x"), ("sort", "\n"))
VALUES = {
    "meaning": (None, Macro((), ()), Macro((), (X,)), ("command", "fi"), ("command", "abcdefghijkl"), X, ACTIVE, BLANK, LEFT),
    "number": (0, 1, -5, 2 ** 31 - 1, 1 - 2 ** 31), "length": (0, 65536, 2 ** 30 - 1, 1 - 2 ** 30),
    "glue": (Glue(0), Glue(0, stretch=1), Glue(1)), "row": ((), (X,), (LEFT, X, RIGHT), (X,) * 1000),
    "sort": ("letter", "other", "end", "active", "escape"),
}
FIRST = {("meaning", HI): None, ("meaning", ACTIVE): None, ("number", 0): 0, ("number", 255): 0, ("length", 3): 0,
         ("glue", 3): Glue(0), ("row", 3): (), ("sort", "x"): "letter", ("sort", "\n"): "end"}
WRONG_VALUES = (
    ("meaning", InvalidOperation, (1, "fi", (), ("command",), ("command", ""), ("command", "Fi"), ("command", "abcdefghijklm"),
                                   ("command", "a1"), ("command", 1), HI, ("sign", "x", "blank"), ("sign", "xx", "letter"),
                                   ["command", "fi"], False)),
    ("number", InvalidNumber, (2 ** 31, -2 ** 31, True, False, None, "1", (), 10 ** 60)),
    ("length", InvalidLength, (2 ** 30, -2 ** 30, True, None, "1pt")),
    ("glue", InvalidGlue, (0, None, "0pt", Sorts(), True)),
    ("row", InvalidRow, ((X,) * 1001, (LEFT,), (RIGHT, LEFT), X, [X], "x", None, (None,))),
    ("sort", InvalidSort, ("", "lett", "x", None, 0, ("letter",), ["letter"])),
)


class PlainScope:
    """Values by [5.3]: at each level all values, and an assignment everywhere changes all levels."""

    def __init__(self):
        self.levels = [dict(FIRST)]
        self.words = []
        self.behind = []

    def assign(self, place, value, everywhere):
        held = self.levels[-1][place]
        for values in self.levels if everywhere else self.levels[-1:]:
            values[place] = value
        return held

    def enter(self, word):
        self.levels.append(dict(self.levels[-1]))
        self.words.append(word)
        self.behind.append([])

    def leave(self):
        self.levels.pop()
        self.words.pop()
        return tuple(self.behind.pop())

    def twin(self):
        other = PlainScope()
        other.levels = [dict(values) for values in self.levels]
        other.words, other.behind = list(self.words), [list(tokens) for tokens in self.behind]
        return other

    def key(self):
        return (self.levels, self.words, self.behind)


class Examples(unittest.TestCase):
    def test_examples(self):
        scope = Scope(meanings={("word", "fi"): ("command", "fi")})
        told = [scope.assign("number", 3, 7), scope.enter("box"), scope.assign("number", 3, 8),
                scope.assign("number", 3, 1, everywhere=True), scope.assign("number", 3, 9), scope.assign("sort", "!", "active"),
                scope.words]
        self.assertEqual(told, [0, None, 7, 8, 1, "other", ("box",)])
        told = [scope.put_behind(X), scope.leave(), scope.value_of("number", 3), scope.value_of("sort", "!"), str(scope)]
        self.assertEqual(told, [None, (X,), 1, "other", "scope at level 0, 1 meanings"])
        first = scope.state
        told = [scope.assign("number", 3, 1), scope.state == first, scope.enter(), scope.state == first, scope.restore(first),
                scope.level]
        self.assertEqual(told, [1, True, None, False, None, 0])
        self.assertRaises(InvalidOperation, scope.leave)

    def test_constants(self):
        self.assertEqual(KINDS, ("meaning", "number", "length", "glue", "row", "sort"))
        self.assertEqual((module.MAX_REGISTER, module.MAX_LEVEL, module.MAX_BEHIND), (255, 100, 100))


class Values(unittest.TestCase):
    def test_values_at_the_beginning(self):
        scope = Scope()
        for place, value in FIRST.items():
            self.assertEqual(scope.value_of(*place), value)
            self.assertIs(type(scope.value_of(*place)), type(value))
        for sign in "\\{}\n# az~`!":
            self.assertEqual(scope.value_of("sort", sign), Sorts()[sign])
        self.assertEqual((scope.level, scope.words, scope.sorts, str(scope)), (0, (), Sorts(), "scope at level 0, 0 meanings"))

    def test_all_kinds_of_values(self):
        for everywhere, level in product((False, True), (0, 1, 3)):
            scope = Scope()
            for _ in range(level):
                scope.enter()
            for place in PLACES:
                held = FIRST[place]
                for value in VALUES[place[0]]:
                    self.assertEqual(scope.assign(*place, value, everywhere=everywhere), held)
                    self.assertEqual(scope.value_of(*place), value)
                    held = value

    def test_kinds_and_keys_are_apart(self):
        scope = Scope()
        for kind, value in (("number", 5), ("length", 6), ("glue", Glue(7)), ("row", (X,))):
            scope.assign(kind, 3, value)
        scope.assign("meaning", ("word", "x"), X)
        scope.assign("meaning", ("sign", "x", "active"), BLANK)
        self.assertEqual([scope.value_of(kind, 3) for kind in KINDS[1:5]], [5, 6, Glue(7), (X,)])
        self.assertEqual([scope.value_of(kind, 4) for kind in KINDS[1:5]], [0, 0, Glue(0), ()])
        self.assertEqual(scope.value_of("meaning", ("word", "x")), X)
        self.assertEqual(scope.value_of("meaning", ("sign", "x", "active")), BLANK)

    def test_given_meanings(self):
        meanings = {HI: Macro((), ()), ACTIVE: None, ("word", "a"): ("command", "a"), ("word", "b"): X}
        scope = Scope(meanings=meanings)
        for key, value in meanings.items():
            self.assertEqual(scope.value_of("meaning", key), value)
        meanings[HI] = None
        self.assertEqual(scope.value_of("meaning", HI), Macro((), ()))
        self.assertEqual(str(scope), "scope at level 0, 3 meanings")
        scope.enter()
        scope.assign("meaning", ("word", "a"), None)
        scope.assign("meaning", ("word", "c"), X)
        scope.assign("meaning", ("word", "d"), X)
        self.assertEqual(str(scope), "scope at level 1, 4 meanings")
        self.assertEqual(Scope(meanings={ACTIVE: None}), Scope())
        self.assertEqual(Scope(meanings=None), Scope(meanings={}))

    def test_wrong_meanings(self):
        for value in odd_values_but(lambda one: one is None or one == {}):
            with self.assertRaises(InvalidOperation):
                Scope(meanings=value)
        for meanings in ({X: None}, {HI: 1}, {HI: HI}, {"hi": None}, {("word", ""): None}, {HI: ("command", "")}, {BLANK: X}, {1: X}):
            with self.assertRaises(InvalidOperation):
                Scope(meanings=meanings)

    def test_sorts(self):
        scope = Scope()
        scope.assign("sort", "!", "letter")
        scope.enter()
        scope.assign("sort", "!", "other")
        scope.assign("sort", "a", "end")
        self.assertEqual(scope.sorts, Sorts({"a": "end"}))
        scope.assign("sort", "?", "letter", everywhere=True)
        scope.leave()
        self.assertEqual(scope.sorts, Sorts({"!": "letter", "?": "letter"}))


class Wrong(unittest.TestCase):
    """All that is refused, and that nothing is changed by it."""

    def refuse(self, error, call, *arguments, value="none", **more):
        before = self.scope.state
        with self.subTest(arguments=arguments), self.assertRaises(error) as caught:
            call(*arguments, **more)
        if value != "none":
            self.assertIs(caught.exception.value, value)
        self.assertEqual(self.scope.state, before)

    def setUp(self):
        self.scope = Scope()
        self.scope.enter()
        self.scope.assign("number", 1, 5)

    def test_kinds(self):
        for kind in [*odd_values_but(lambda one: False), "numbers", "Number", "sorts"]:
            self.refuse(InvalidOperation, self.scope.value_of, kind, 1)
            self.refuse(InvalidOperation, self.scope.assign, kind, None, None, everywhere=None)

    def test_keys(self):
        for kind in KINDS[1:5]:
            for key in [*odd_values_but(lambda one: type(one) is int and one in (0, 1, 7)), 256, -1, True, False]:
                self.refuse(InvalidNumber, self.scope.value_of, kind, key, value=key)
                self.refuse(InvalidNumber, self.scope.assign, kind, key, "wrong", value=key, everywhere=None)
        for key in odd_values_but(lambda one: one == ("word", "par")) + [X, BLANK, ("word", ""), ("sign", "~", "other"), ["word", "hi"]]:
            self.refuse(InvalidToken, self.scope.value_of, "meaning", key)
            self.refuse(InvalidToken, self.scope.assign, "meaning", key, "wrong", everywhere=None)
        for key in odd_values_but(lambda one: one in ("a", "\n") and isinstance(one, str)) + ["xx", ["x"]]:
            self.refuse(InvalidSort, self.scope.value_of, "sort", key)
            self.refuse(InvalidSort, self.scope.assign, "sort", key, "wrong", everywhere=None)

    def test_values(self):
        keys = {kind: key for kind, key in PLACES}
        for kind, error, values in WRONG_VALUES:
            for value in values:
                for everywhere in (False, None):
                    told = {"value": value} if error is InvalidNumber else {}
                    self.refuse(error, self.scope.assign, kind, keys[kind], value, everywhere=everywhere, **told)

    def test_everywhere(self):
        for value in odd_values_but(lambda one: isinstance(one, bool)):
            for place in PLACES:
                self.refuse(InvalidOperation, self.scope.assign, *place, VALUES[place[0]][1], everywhere=value)

    def test_words_of_groups(self):
        for word in odd_values_but(lambda one: isinstance(one, str) and one in ("a", "ab", "letter", "word")):
            self.refuse(InvalidOperation, self.scope.enter, word)
        for word in ("", "Group", "a b", "a1", "abcdefghijklm"):
            self.refuse(InvalidOperation, self.scope.enter, word)
        self.scope.enter("abcdefghijkl")
        self.assertEqual(self.scope.words, ("group", "abcdefghijkl"))

    def test_tokens(self):
        for token in odd_values_but(lambda one: one in (("word", "par"), ("sign", "a", "letter"))):
            self.refuse(InvalidToken, self.scope.put_behind, token)
        self.scope.leave()
        self.refuse(InvalidToken, self.scope.put_behind, None)
        self.refuse(InvalidOperation, self.scope.put_behind, X)

    def test_states(self):
        for value in odd_values_but(lambda one: type(one) is type(Scope().state)):
            self.refuse(InvalidScope, self.scope.restore, value)

    def test_it_is_not_iterated_over(self):
        self.assertRaises(TypeError, iter, self.scope)


class Limits(unittest.TestCase):
    def test_groups(self):
        scope = Scope()
        for _ in range(100):
            scope.enter()
        state = scope.state
        with self.assertRaises(TooMany) as caught:
            scope.enter()
        self.assertEqual((caught.exception.limit, scope.level, scope.state), (100, 100, state))
        self.assertRaises(InvalidOperation, scope.enter, "")
        scope.assign("number", 0, 1, everywhere=True)
        for _ in range(100):
            self.assertEqual(scope.leave(), ())
        self.assertRaises(InvalidOperation, scope.leave)
        self.assertEqual(scope.value_of("number", 0), 1)

    def test_tokens(self):
        scope = Scope()
        scope.enter()
        for _ in range(99):
            scope.put_behind(X)
        scope.put_behind(HI)
        state = scope.state
        with self.assertRaises(TooMany) as caught:
            scope.put_behind(X)
        self.assertEqual((caught.exception.limit, scope.state), (100, state))
        self.assertRaises(InvalidToken, scope.put_behind, None)
        scope.enter()
        scope.put_behind(X)
        self.assertEqual([scope.leave(), scope.leave()], [(X,), (X,) * 99 + (HI,)])


class Groups(unittest.TestCase):
    """Random steps, six groups deep, beside a plain scope."""

    def test_random_steps(self):
        random = Random(41)
        for _ in range(150):
            scope, plain, kept = Scope(), PlainScope(), []
            for _ in range(60):
                self.step(random, scope, plain)
                self.compare(scope, plain)
                kept.append((scope.state, plain.twin()))
                state, told = random.choice(kept)
                self.assertIs(scope.state == state, plain.key() == told.key())
                self.assertIs(scope.state != state, plain.key() != told.key())
                if random.random() < 0.1:
                    self.assertIsNone(scope.restore(state))
                    plain = told.twin()
                    self.compare(scope, plain)
                    self.assertEqual(scope.state, state)
                elif random.random() < 0.2:
                    scope = self.twin_of(random, scope, plain)

    def step(self, random, scope, plain):
        what = random.randrange(10)
        if what == 0 and scope.level < 6:
            word = random.choice(("group", "box", "row"))
            self.assertIsNone(scope.enter(word))
            plain.enter(word)
        elif what == 1 and scope.level:
            self.assertEqual(scope.leave(), plain.leave())
        elif what == 2 and scope.level:
            token = random.choice((X, HI, BLANK))
            self.assertIsNone(scope.put_behind(token))
            plain.behind[-1].append(token)
        else:
            place = random.choice(PLACES)
            value = random.choice(VALUES[place[0]][:4])
            everywhere = random.random() < 0.25
            self.assertEqual(scope.assign(*place, value, everywhere=everywhere), plain.assign(place, value, everywhere))

    def compare(self, scope, plain):
        for place in PLACES:
            self.assertEqual(scope.value_of(*place), plain.levels[-1][place])
        self.assertEqual((scope.level, scope.words), (len(plain.words), tuple(plain.words)))
        changes = {key: value for (kind, key), value in plain.levels[-1].items() if kind == "sort"}
        self.assertEqual(scope.sorts, Sorts(changes))
        many = len([None for (kind, _), value in plain.levels[-1].items() if kind == "meaning" and value is not None])
        self.assertEqual(str(scope), f"scope at level {scope.level}, {many} meanings")

    def twin_of(self, random, scope, plain):
        """A twin that goes on otherwise first, and then the scope, which has stayed as it was."""
        twin = scope.twin()
        self.assertEqual(twin, scope)
        self.assertEqual(twin.state, scope.state)
        other = plain.twin()
        for _ in range(5):
            self.step(random, twin, other)
        self.compare(twin, other)
        self.compare(scope, plain)
        self.assertIs(twin == scope, other.key() == plain.key())
        return scope

    def test_equal_states_however_they_came(self):
        one, other = Scope(), Scope()
        one.enter()
        one.assign("number", 1, 5)
        one.assign("number", 1, 0)
        other.enter()
        self.assertEqual(one.state, other.state)
        one.assign("glue", 1, Glue(3), everywhere=True)
        other.leave()
        other.assign("glue", 1, Glue(3))
        other.enter()
        self.assertEqual(one, other)
        one.put_behind(X)
        self.assertNotEqual(one, other)
        other.put_behind(X)
        one.enter("box")
        other.enter("group")
        self.assertNotEqual(one.state, other.state)

    def test_a_value_of_a_lower_level_that_cannot_be_seen(self):
        one, other = Scope(), Scope()
        one.assign("number", 1, 5)
        for scope in (one, other):
            scope.enter()
            scope.assign("number", 1, 7)
        self.assertNotEqual(one.state, other.state)
        one.assign("number", 1, 7, everywhere=True)
        self.assertNotEqual(one.state, other.state)
        other.assign("number", 1, 7, everywhere=True)
        self.assertEqual(one.state, other.state)

    def test_states_stay_as_they_are(self):
        scope = Scope()
        first = scope.state
        scope.enter()
        scope.put_behind(X)
        second = scope.state
        scope.put_behind(HI)
        scope.assign("number", 1, 2, everywhere=True)
        other = Scope()
        other.restore(second)
        self.assertEqual(other.leave(), (X,))
        self.assertEqual((other.state, other.value_of("number", 1)), (first, 0))
        self.assertEqual(scope.leave(), (X, HI))

    def test_equality_with_other_kinds(self):
        for value in ODD_VALUES:
            if not isinstance(value, Scope):
                self.assertIs(Scope() == value, False)
            if not isinstance(value, type(Scope().state)):
                self.assertIs(Scope().state == value, False)
                self.assertIs(Scope().state != value, True)


if __name__ == "__main__":
    unittest.main()
