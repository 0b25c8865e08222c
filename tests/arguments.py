"""What every call does with what it is passed: the right error for any object, and nothing changed.

A spec is a tuple of a module, a function, and a list of tuples (name, maker, judge), one for each argument: the maker
makes a good one, the judge tells the class of the error for a value, perhaps with what is in its field, or None.
Behind it may stand a function that tells the error that is looked for behind all others. The judge HELD is of the
object itself whose method is called: it is never put in another one's place.
"""

import random

from tests import support
from tests.support import bent, odd_objects, outcome_of, shape, spoil


def unless(error, fits):
    """A judge of one argument by itself."""
    return lambda value, given: None if fits(value) else error


def unless_with(error, fits):
    """A judge of one argument by those ahead of it, too."""
    return lambda value, given: None if fits(value, given) else error


def judged(value, given):
    return None


def HELD(value, given):
    return None


def named(spec):
    return spec[0] + "." + spec[1]


def expected(spec, row):
    """The class of the error and its field that the document tells for a call, None if it tells none."""
    given = {}
    for (name, made, judge), value in zip(spec[2], row):
        error = judge(value, given)
        if error is not None:
            return error if isinstance(error, tuple) else (error, value)
        given[name] = value
    return spec[3](given) if len(spec) > 3 else None


def free_places(spec):
    """The places of the arguments in which anything may stand."""
    return [at for at, (name, made, judge) in enumerate(spec[2]) if judge is not HELD]


class ArgumentsCheck:
    specs = []

    def check(self, spec, row):
        """One call: the error that the document tells, or none; nothing passed is changed."""
        function = support.function_of(spec[0], spec[1])
        before = shape(row)
        wanted = expected(spec, row)
        error, result = outcome_of(function, *row)
        first = 1 if error is None and spec[2] and spec[2][0][2] is HELD else 0
        self.assertEqual(shape(row[first:]), ("list", before[1][first:]), named(spec))
        if wanted is None:
            self.assertIsNone(error, (named(spec), row))
            return result
        self.assertIs(error.__class__, wanted[0], (named(spec), row))
        self.assertIs(error.value, wanted[1], (named(spec), row))
        return None

    def test_the_good_calls_are_good(self):
        for spec in self.specs:
            self.assertIsNone(expected(spec, [made() for name, made, judge in spec[2]]), named(spec))

    def test_any_object_in_the_place_of_each_argument(self):
        for spec in self.specs:
            for at in free_places(spec):
                for odd in odd_objects():
                    row = [made() for name, made, judge in spec[2]]
                    row[at] = odd
                    self.check(spec, row)

    def test_values_bent_at_a_single_place(self):
        for spec in self.specs:
            for at in free_places(spec):
                good = spec[2][at][1]()
                for other in bent(good):
                    row = [made() for name, made, judge in spec[2]]
                    row[at] = other
                    self.check(spec, row)

    def test_the_first_wrong_argument_where_several_are_wrong(self):
        chance = random.Random(7)
        for spec in self.specs:
            for _ in range(60 if len(spec[2]) > 1 else 0):
                row = [made() for name, made, judge in spec[2]]
                for at in free_places(spec):
                    if chance.random() < 0.5:
                        choices = odd_objects() + list(bent(row[at]))
                        row[at] = chance.choice(choices)
                self.check(spec, row)

    def test_judges_tell_false_of_odd_objects_of_another_kind(self):
        for spec in self.specs:
            if spec[2] and spec[2][-1][2] is judged:
                kind = spec[2][-1][1]().__class__
                for odd in odd_objects():
                    result = self.check(spec, [made() for name, made, judge in spec[2][:-1]] + [odd])
                    self.assertIn(result, [True, False])
                    self.assertIs(result.__class__, bool)
                    if odd.__class__ is not kind:
                        self.assertIs(result, False, (named(spec), odd))

    def test_equal_calls_return_equal_results_that_are_new(self):
        for spec in self.specs:
            function = support.function_of(spec[0], spec[1])
            row = [made() for name, made, judge in spec[2]]
            first = function(*row)
            told = shape(first)
            held = shape(row)
            spoil(first)
            self.assertEqual(shape(row), held, named(spec))
            if free_places(spec) == list(range(len(row))):
                self.assertEqual(held, shape([made() for name, made, judge in spec[2]]), named(spec))
                self.assertEqual(shape(function(*row)), told, named(spec))
            late = [made() for name, made, judge in spec[2]]
            second = function(*late)
            for part in late:
                spoil(part)
            self.assertEqual(shape(second), told, named(spec))

    def test_arguments_by_their_names(self):
        for spec in self.specs:
            function = support.function_of(spec[0], spec[1])
            row = {name: made() for name, made, judge in spec[2]}
            other = {name: made() for name, made, judge in spec[2]}
            self.assertEqual(shape(function(**row)), shape(function(*other.values())), named(spec))
            self.assertEqual(shape(row), shape(other))
