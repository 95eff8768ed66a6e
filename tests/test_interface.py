"""The interface: its names, the files in which they stand, their parameters, and its examples."""

import doctest
import importlib
import inspect
import os

from straightened.changes import Change, jacobian
from straightened.heads import degree_by, edge, power_multiple, straight_root
from straightened.lines import common, degree, put_in, worth
from straightened.polys import Poly
from straightened.ratios import Ratio
from straightened.shears import direction_of, is_shear, keeps, led_direction, shear
from straightened.steps import led, own_steps, taken
from straightened.straights import determinant, leading, straight, undone_straight
from tests.helpers import Case

ROOT = os.path.dirname(os.path.dirname(os.path.abspath(__file__)))

FUNCTIONS = {
    "basics": {"is_integer": ["value"], "is_count": ["value"]},
    "ratios": {"is_number": ["value"]},
    "lines": {
        "is_line": ["value"], "told": ["line"], "degree": ["line"], "plus": ["line", "other"],
        "minus": ["line", "other"], "scaled": ["line", "number"], "derived": ["line"], "times": ["line", "other"],
        "put_in": ["line", "other"], "worth": ["line", "number"], "divided": ["line", "other"],
        "common": ["line", "other"],
    },
    "polys": {},
    "heads": {
        "head": ["poly"], "degree_by": ["poly", "first", "second"], "edge": ["poly", "first", "second"],
        "multiple": ["poly", "other"], "power_multiple": ["poly", "other", "many"], "straight_root": ["poly"],
    },
    "changes": {"is_point": ["value"], "jacobian": ["change"]},
    "straights": {
        "is_straight": ["change"], "determinant": ["change"], "straight": ["rows", "point"],
        "undone_straight": ["change"], "leading": ["points", "others"],
    },
    "shears": {
        "is_direction": ["value"], "is_shear": ["value"], "level": ["direction"], "direction_of": ["point"],
        "led_direction": ["change", "direction"], "keeps": ["change", "direction"], "shear": ["direction", "line"],
    },
    "steps": {"is_step": ["value"], "taken": ["change", "step"], "own_steps": ["change"], "led": ["change"]},
    "stops": {
        "stop": ["change"], "can_be_undone": ["change"], "is_steps": ["change", "value"], "is_stop": ["change", "value"],
    },
    "undoing": {
        "undone": ["change"], "undone_at": ["change", "point"], "uneven": ["change"], "is_uneven": ["change", "value"],
    },
    "words": {
        "is_word": ["value"], "degree_of": ["word"], "word_change": ["word"], "word_at": ["word", "point"],
        "word_of": ["change"], "same_word": ["word", "other"],
    },
    "handed": {
        "handed": ["change", "shear"], "joined": ["items"], "behind_word": ["word", "other"], "undone_word": ["word"],
    },
    "turned": {"turned": ["word"], "is_least": ["word"], "least": ["word"]},
    "rounds": {
        "round_of": ["word", "many"], "round_degrees": ["word", "many"], "pace": ["word"], "row": ["word"],
        "home": ["word"], "is_led": ["word", "other", "by"], "is_unlike": ["word", "other"],
    },
    "edges": {"binomial_edge": ["poly", "letter"], "is_half_step": ["value"]},
    "halves": {
        "half_put": ["poly", "step"], "own_half_steps": ["poly"], "half_led": ["poly"], "half_stop": ["poly"],
        "is_half": ["poly"], "is_half_steps": ["poly", "value"], "is_half_stop": ["poly", "value"],
    },
    "partners": {
        "partner": ["poly"], "is_partner": ["poly", "value"], "partner_parts": ["poly", "one", "two"],
        "unity": ["poly"], "is_unity": ["poly", "value"],
    },
    "threads": {
        "is_thread": ["value"], "thread_at": ["thread", "number"], "thread_taken": ["thread", "step"],
        "thread_steps": ["thread"], "thread_led": ["thread"], "thread_stop": ["thread"], "is_straightened": ["thread"],
        "is_thread_steps": ["thread", "value"], "is_thread_stop": ["thread", "value"],
        "changed_thread": ["change", "thread"],
    },
    "laid": {
        "straightener": ["thread"], "is_straightener": ["thread", "value"], "back": ["thread"],
        "is_back": ["thread", "value"],
    },
    "crossings": {
        "quotient": ["line"], "crossing_line": ["thread"], "is_crossing": ["thread", "value"],
        "sum_degrees": ["thread", "many"],
    },
    "equations": {"equation": ["thread"], "is_on": ["poly", "thread"], "trace": ["thread"]},
    "walked": {
        "through": ["line", "other"], "inner": ["thread"], "outer": ["thread"], "walked": ["thread"],
        "is_through": ["thread", "value"],
    },
    "levels": {
        "level_thread": ["poly", "number"], "is_level_thread": ["poly", "number", "value"],
        "leading_change": ["thread", "other"], "is_leading": ["thread", "other", "value"],
    },
    "texts": {"written": ["thing"]},
    "forms": {"read": ["text"]},
    "claims": {
        "words": [], "is_claim": ["value"], "is_true": ["claim"], "contrary": ["claim"], "paper_of": ["claim"],
        "is_paper_of": ["claim", "value"],
    },
    "commands": {"is_name": ["value"], "is_command": ["value"], "is_deed": ["value"]},
    "desk": {"tried": ["desk", "action"]},
}

METHODS = {
    ("ratios", "Ratio"): {
        "__init__": ["self", "top", "bottom"], "over": ["self", "other"], "size": ["self"],
        "is_below": ["self", "other"], "is_at_most": ["self", "other"], "total": ["numbers"],
        "__add__": None, "__sub__": None, "__mul__": None, "__neg__": None, "__eq__": None, "__str__": None,
        "__repr__": None,
    },
    ("polys", "Poly"): {
        "__init__": ["self", "entries"], "entries": ["self"], "amount": ["self", "first", "second"],
        "scaled": ["self", "number"], "x": [], "y": [], "number": ["number"], "worth": ["self", "first", "second"],
        "put": ["self", "first", "second"], "along": ["self", "first", "second"], "derived": ["self", "letter"],
        "degree_in": ["self", "letter"], "__add__": None, "__sub__": None, "__mul__": None, "__neg__": None,
        "__eq__": None, "__repr__": None,
    },
    ("changes", "Change"): {
        "__init__": ["self", "first", "second"], "behind": ["self", "other"], "at": ["self", "point"], "same": [],
        "__eq__": None, "__repr__": None,
    },
    ("desk", "Desk"): {
        "__init__": ["self"], "claim_of": ["self", "label"], "do": ["self", "command"], "do_all": ["self", "commands"],
        "attempt": ["self", "commands"], "attach": ["self", "label", "paper"], "fits": ["self", "label"], "lines": ["self"],
        "copy": ["self"], "again": ["lines"], "__len__": None, "__getitem__": None, "__contains__": None,
        "__call__": ["self", "command"],
    },
    ("desk", "Trial"): {"__init__": ["self", "desk"], "__enter__": None, "__exit__": None},
}

PROPERTIES = {
    ("ratios", "Ratio"): ["top", "bottom", "sign", "is_whole"],
    ("polys", "Poly"): ["degree", "is_nought"],
    ("changes", "Change"): ["first", "second", "degree"],
    ("desk", "Desk"): ["names", "labels"],
}


def found_in(file, name):
    return getattr(importlib.import_module("straightened." + file), name)


class NamesTest(Case):
    def test_functions_stand_in_their_files(self):
        for file in FUNCTIONS:
            for name in FUNCTIONS[file]:
                with self.subTest(name):
                    function = found_in(file, name)
                    self.assertEqual(function.__module__, "straightened." + file)
                    self.assertEqual(list(inspect.signature(function).parameters), FUNCTIONS[file][name])

    def test_methods_stand_in_their_classes(self):
        for file, name in METHODS:
            made = found_in(file, name)
            self.assertEqual(made.__module__, "straightened." + file)
            for method in METHODS[(file, name)]:
                with self.subTest(method):
                    self.assertIn(method, vars(made))
                    wanted = METHODS[(file, name)][method]
                    if wanted is not None:
                        self.assertEqual(list(inspect.signature(getattr(made, method)).parameters), wanted)

    def test_properties_stand_in_their_classes(self):
        for file, name in PROPERTIES:
            for part in PROPERTIES[(file, name)]:
                self.assertIsInstance(vars(found_in(file, name))[part], property)


class ExamplesTest(Case):
    def test_ratios(self):
        found = [Ratio(4, -6), str(Ratio(1, 2) + 3), Ratio(1, 3).is_below(Ratio(2, 5))]
        self.assertEqual(repr(found), "[Ratio(-2, 3), '7/2', True]")

    def test_lines(self):
        found = [
            degree([1, 0, 2, 0]), put_in([0, 0, 1], [1, 1]) == [Ratio(1), Ratio(2), Ratio(1)],
            worth([1, Ratio(1, 2)], 4), common([-1, 0, 1], [2, 2]) == [Ratio(1), Ratio(1)],
        ]
        self.assertEqual(repr(found), "[2, True, Ratio(3, 1), True]")

    def test_polys_and_heads(self):
        bent = Poly.y() + Poly.x() * Poly.x()
        found = [
            bent, bent.degree_in("y"), bent.worth(3, 1), (bent * bent).amount(2, 1),
            bent.along([0, 1], [5]) == [Ratio(5), Ratio(0), Ratio(1)],
        ]
        told = "[Poly([(0, 1, Ratio(1, 1)), (2, 0, Ratio(1, 1))]), 1, Ratio(10, 1), Ratio(2, 1), True]"
        self.assertEqual(repr(found), told)
        self.assertEqual(bent.put(bent, Poly.number(2)).entries(), (bent * bent + Poly.number(2)).entries())
        found = [
            edge(bent, 1, 2) == bent, degree_by(bent, 3, 1),
            power_multiple(Poly([(2, 0, 4)]), Poly.x().scaled(2), 2),
            straight_root(Poly([(2, 0, 3), (1, 1, -12), (0, 2, 12)])),
        ]
        self.assertEqual(repr(found), "[True, 6, Ratio(1, 1), (Ratio(12, 1), (Ratio(1, 1), Ratio(1, 2)))]")

    def test_changes_straights_and_shears(self):
        bent = Change(Poly([(1, 0, 1), (0, 2, 1)]), Poly.y())
        found = [
            bent.at((1, 2)), bent.behind(bent) == Change(Poly([(1, 0, 1), (0, 2, 2)]), Poly.y()),
            jacobian(bent) == Poly.number(1), bent.degree,
        ]
        self.assertEqual(repr(found), "[(Ratio(5, 1), Ratio(2, 1)), True, True, 2]")
        turn = straight([[0, 1], [-1, 0]], (2, 0))
        found = [
            determinant(turn), undone_straight(turn).at((2, 0)),
            leading([(0, 0), (1, 0), (0, 1)], [(2, 0), (2, -1), (3, 0)]) == turn,
        ]
        self.assertEqual(repr(found), "[Ratio(1, 1), (Ratio(0, 1), Ratio(0, 1)), True]")
        found = [
            direction_of((2, 3)), led_direction(turn, (1, 0)), keeps(turn, (0, 1)), shear((1, 0), [0, 0, 1]) == bent,
        ]
        self.assertEqual(repr(found), "[(Ratio(1, 1), Ratio(3, 2)), (Ratio(0, 1), Ratio(1, 1)), False, True]")
        found = [is_shear(((0, 1), [0, 0, 5])), is_shear(((1, 2), [0, 1, 5])), is_shear(((2, 4), [0, 0, 5]))]
        self.assertEqual(found, [True, False, False])

    def test_steps(self):
        bent = Change(Poly([(1, 0, 1), (0, 2, 1), (2, 1, 2), (4, 0, 1)]), Poly([(0, 1, 1), (2, 0, 1)]))
        found = [own_steps(bent), led(bent) == Change.same(), taken(Change.same(), (0, -1, 2)).first]
        told = "[[(0, Ratio(1, 1), 2), (1, Ratio(1, 1), 2)], True, Poly([(0, 2, Ratio(1, 1)), (1, 0, Ratio(1, 1))])]"
        self.assertEqual(repr(found), told)

    def test_the_readme(self):
        with open(os.path.join(ROOT, "README.md"), encoding="utf-8") as held:
            rows = held.read().split("```")
        self.run_examples("README.md", "".join(rows[1::2]), 3)

    def test_the_examples_from_stops_on(self):
        with open(os.path.join(ROOT, "tests", "examples.txt"), encoding="utf-8") as held:
            self.run_examples("examples.txt", held.read(), 35)

    def run_examples(self, name, text, least):
        parser, runner = doctest.DocTestParser(), doctest.DocTestRunner(verbose=False)
        examples = parser.get_doctest(text, {}, name, name, 0)
        self.assertGreater(len(examples.examples), least)
        self.assertEqual(runner.run(examples).failed, 0)
