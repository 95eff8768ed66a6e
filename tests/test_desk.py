"""straightened.desk: points 95 to 98."""

from straightened.changes import Change
from straightened.claims import contrary, is_paper_of, paper_of
from straightened.desk import Desk, Trial, tried
from straightened.errors import (
    BendError, CommandFailed, DividedByZero, InvalidClaim, InvalidCommand, InvalidEntries, InvalidLine, InvalidLines,
    InvalidMany, InvalidPaper, InvalidStep, InvalidThread, LabelTaken, LimitError, MissingError, NameTaken, NoThread,
    NothingToRedo, NothingToUndo, NotUndone, StateError, TooMany, UnknownLabel, UnknownName,
)
from straightened.polys import Poly
from straightened.ratios import Ratio
from tests.desk_model import Model, plain
from tests.helpers import Case, Draw, not_lists, strange

OWN = (BendError, MissingError, StateError, LimitError)
X, Y = Poly.x(), Poly.y()
START = (
    "poly p 1,0,1 0,2,1", "poly q 0,1,1", "change c p q", "claim up undone c", "word w c", "thread t 0 1 by",
    "claim run straight t", "claim back home w",
)
# Names and labels are few, so that many are taken, and many more unknown.
PATTERNS = (
    "poly N P P", "poly N P", "poly N", "term N D D V", "change N N N", "linear N V V V V V V", "shear N R 0 0 V",
    "shear N R V V", "first N N", "second N N", "behind N N N", "undone N N", "led N N", "step N B A D", "thread N V V by V",
    "thread N V V V by V V", "lay N N N", "word N N", "made N N", "turned N N", "least N N", "drop N", "claim L C N",
    "claim L C N", "claim L C N", "forget L", "undo", "undo", "redo", "redo", "state L", "states", "claimed L", "names",
    "lay N c t", "lay N c t", "show N", "show N", "degree N", "stop N", "steps N", "jacobian N", "at N V V", "on N V", "pace N", "home N", "rounds N D",
    "walked N", "crossing N", "same N N",
)
CLAIMS = "undone stuck steady uneven half none straight crossed once again home never".split()


def started():
    desk = Desk()
    desk.do_all(*START)
    return desk


def drawn_command(draw, names):
    told = []
    for word in PATTERNS[draw.below(len(PATTERNS))].split(" "):
        number = str(draw.ratio(3))
        told.append({
            "N": lambda: names[draw.below(len(names))], "L": lambda: ("la", "lb", "p", "lc")[draw.below(4)],
            "P": lambda: f"{draw.below(3)},{draw.below(3)},{draw.but_nought(3) * Ratio(1)}", "V": lambda: number,
            "D": lambda: str(draw.below(3)), "R": lambda: "-" if draw.below(3) == 0 else str(draw.whole(2)),
            "B": lambda: str(draw.below(2)), "A": lambda: str(draw.but_nought(2) * Ratio(1)),
            "C": lambda: CLAIMS[draw.below(12)],
        }.get(word, lambda: word)())
    return " ".join(told)


def drawn_commands(seed, many, names="p q c d w v t u".split()):
    draw = Draw(seed)
    found = list(START[:3] + START[4:6])
    while len(found) < many:
        found.append(START[draw.below(8)] if len(found) % 4 == 0 else drawn_command(draw, names))
    return found


def outcome(action, *values):
    """The answer, or the error with its attributes, as a string."""
    try:
        return repr(action(*values))
    except OWN as error:
        return f"{error.__class__.__name__} {sorted(vars(error).items(), key=lambda item: item[0])!r}"


def whole(desk):
    """All that can be asked of a desk, as a string."""
    return repr([
        desk.names, desk.labels, len(desk), [desk[name] for name in desk.names], [desk.claim_of(label) for label in desk.labels],
        [desk.fits(label) for label in desk.labels], desk.lines(), desk.do("states"), [desk.do("claimed " + label) for label in desk.labels],
        redone(desk),
    ])


def redone(desk):
    """What can be done again, asked of a copy."""
    held, found = desk.copy(), []
    while True:
        try:
            found.append(held.do("redo"))
        except NothingToRedo:
            return found


class DrawnTest(Case):
    def check_alike(self, desk, model):
        self.assertEqual(desk.names, sorted(model.things))
        self.assertEqual(desk.labels, sorted(model.claims))
        self.assert_integer(len(desk), len(model.past))
        self.assertEqual(desk.lines(), [line for line, _, _ in model.past])
        for name in desk.names:
            self.assertEqual(repr(desk[name]), repr(model.things[name]))
            self.assertIn(name, desk)
        for label in desk.labels:
            word, name = model.claims[label]
            gone = model.state(label) == "gone"
            self.assertEqual(repr(desk.claim_of(label)), repr(None if gone else (word, model.things[name])))

    def test_against_a_slow_desk(self):
        told = {}
        for seed in range(2501, 2521):
            desk, model = Desk(), Model()
            for command in drawn_commands(seed, 300):
                found, wanted = outcome(desk.do, command), outcome(model.do, command)
                self.assertEqual(found, wanted, (seed, command))
                if found.startswith("'"):
                    self.assertTrue(plain(found[1:-1]), found)
                told[command.split(" ")[0]] = told.get(command.split(" ")[0], 0) + found.startswith("'")
                told[found.split(" ")[0]] = True
            self.check_alike(desk, model)
        for pattern in PATTERNS:
            self.assertGreater(told[pattern.split(" ")[0]], 0, pattern)
        for error in ("NameTaken", "LabelTaken", "UnknownName", "UnknownLabel", "NothingToRedo", "InvalidEntries", "InvalidStep"):
            self.assertIn(error, told)

    def test_as_it_goes(self):
        desk, model = Desk(), Model()
        for command in drawn_commands(2520, 120):
            outcome(desk, command)
            outcome(model.do, command)
            self.check_alike(desk, model)

    def test_undone_to_the_start_and_done_again(self):
        for seed in (2531, 2532, 2533):
            desk = Desk()
            for command in drawn_commands(seed, 80):
                outcome(desk.do, command)
            kept, lines = whole(desk.copy()), desk.lines()
            seen = []
            while len(desk):
                seen.append(whole(desk))
                self.assertEqual(desk("undo"), lines[len(desk)])
            self.assertEqual((desk.names, desk.labels, desk.lines()), ([], [], []))
            self.refused(NothingToUndo, {}, desk.do, "undo")
            for at, line in enumerate(lines):
                self.assertEqual(desk("redo"), line)
                self.assertEqual(repr(desk.lines()), repr(lines[:at + 1]))
            self.assertEqual(repr(desk.names + desk.lines()), repr(Desk.again(lines).names + lines))
            self.assertEqual(whole(desk).rsplit("[", 1)[0], kept.rsplit("[", 1)[0])


class DeskTest(Case):
    def test_examples(self):
        desk = Desk()
        found = desk.do_all("poly p 1,0,1 0,2,1", "poly q 0,1,1", "change c p q", "claim up undone c", "word w c", "show w",
                            "thread t 0 1 by", "lay u c t")
        self.assertEqual(found, ["-", "-", "-", "up true", "-", "1 0 0 1 0 0, 0 1", "-", "-"])
        found = desk.do_all("step c 0 1 2", "show c", "undo", "at c 1 2", "stop c", "term p 1 1 1", "undo", "home w")
        self.assertEqual(found, ["-", "1,0,1 by 0,1,1", "step c 0 1 2", "5 2", "-", "-", "term p 1 1 1", "-"])

    def test_an_empty_desk(self):
        desk = Desk()
        self.assertEqual((desk.names, desk.labels, desk.lines()), ([], [], []))
        self.assert_integer(len(desk), 0)
        self.assertEqual([desk("names"), desk("states")], ["-", "-"])
        self.refused(NothingToUndo, {}, desk, "undo")
        self.refused(NothingToRedo, {}, desk, "redo")
        self.assertRaises(TypeError, iter, desk)

    def test_what_each_command_answers(self):
        desk = Desk()
        for command, answer in (
            ("poly p 0,2,1 1,0,1", "-"), ("poly n", "-"), ("poly q 0,1,1", "-"), ("show p", "0,2,1 1,0,1"), ("show n", "-"),
            ("degree n", "-1"), ("degree p", "2"), ("stop p", "-"), ("stop n", "number"), ("claim h half p", "h true"),
            ("claim g none n", "g true"), ("term p 1 1 3", "h false"), ("term p 1 1 0", "h true"), ("term p 5 5 0", "-"),
            ("term p 9 9 -2", "h false"), ("show p", "0,2,1 1,0,1 9,9,-2"), ("undo", "term p 9 9 -2"),
            ("change c p q", "-"), ("change d n n", "-"), ("show d", "- by -"), ("show c", "0,2,1 1,0,1 by 0,1,1"),
            ("degree c", "2"), ("degree d", "-1"), ("stop c", "-"), ("stop d", "flat"), ("steps c", "0 1 2"), ("steps d", "-"),
            ("jacobian c", "0,0,1"), ("jacobian d", "-"), ("claim s steady c", "s true"), ("claim b stuck c", "b false"),
            ("at c 1/2 -1", "3/2 -1"), ("linear l 0 1 -1/2 0 2 0", "-"), ("show l", "0,0,2 0,1,1 by 1,0,-1/2"), ("drop d", "-"),
            ("behind e c l", "-"), ("show e", "0,0,2 0,1,1 2,0,1/4 by 1,0,-1/2"), ("undone f c", "-"),
            ("show f", "0,2,-1 1,0,1 by 0,1,1"), ("led g c", "-"), ("show g", "1,0,1 by 0,1,1"), ("drop f", "-"), ("drop g", "-"),
            ("first f e", "-"), ("second g e", "-"), ("show g", "1,0,-1/2"), ("drop f", "-"), ("drop g", "-"), ("drop l", "-"),
            ("word w e", "-"), ("show w", "0 1 -1/2 0 2 0, - 1/4"), ("degree w", "2"), ("pace w", "2"), ("home w", "-"),
            ("rounds w 3", "2 4 8"), ("turned v w", "-"), ("show v", "0 1 -1/2 1 2 1, 0 -1/2"), ("least u w", "-"), ("same w u", "yes"),
            ("same w v", "no"), ("made m w", "-"), ("show m", "0,0,2 0,1,1 2,0,1/4 by 1,0,-1/2"), ("claim r never w", "r true"),
            ("names", "c e m n p q u v w"), ("states", "b false, g true, h true, r true, s true"), ("state b", "false"),
            ("claimed r", "never w"), ("forget b", "-"), ("states", "g true, h true, r true, s true"), ("drop w", "r gone"),
            ("state r", "gone"), ("drop p", "h gone"), ("undo", "drop p"), ("undo", "drop w"), ("redo", "drop w"),
            ("thread t 0 0 1 by 0 0 0 0 1", "-"), ("walked t", "2"), ("crossing t", "-"), ("degree t", "4"), ("stop t", "number"),
            ("show t", "0 0 1 by 0 0 0 0 1"), ("on t -1/2", "1/4 1/16"), ("claim a again t", "a true"), ("drop m", "-"),
            ("lay x c t", "-"), ("show x", "0 0 1 0 0 0 0 0 1 by 0 0 0 0 1"), ("thread z 0 by 5 7 0", "-"), ("show z", "- by 5 7"),
            ("crossing z", "1"), ("stop z", "-"), ("degree z", "1"), ("shear k 2 0 0 1", "-"),
            ("show k", "0,2,1 1,0,1 1,1,-4 2,0,4 by 0,1,1 0,2,2 1,1,-8 2,0,8"), ("step k 1 2 1", "-"),
            ("show k", "0,2,1 1,0,1 1,1,-4 2,0,4 by 0,1,1 1,0,-2"), ("steps k", "0 1 2"),
        ):
            with self.subTest(command):
                self.assertEqual(desk(command), answer)

    def test_states_change_by_what_is_kept(self):
        desk = Desk()
        desk.do_all("thread t 0 1 by", "claim a straight t", "claim b crossed t", "claim c once t", "claim d again t")
        self.assertEqual(desk("states"), "a true, b false, c true, d false")
        self.assertEqual(desk("drop t"), "a gone, b gone, c gone, d gone")
        self.assertEqual(desk("thread t 0 0 0 0 0 0 0 1 by"), "c false, d true")
        self.assertIsNone(desk.claim_of("a"))
        self.assertEqual(desk.claim_of("d"), ("again", ([], [Ratio(0)] * 7 + [Ratio(1)])[::-1]))
        desk("drop t")
        self.assertEqual(desk("poly t"), "-")
        self.assertEqual([desk.claim_of(label) for label in "abcd"], [None] * 4)
        self.assertEqual(desk.do_all("undo", "undo", "undo", "undo"), ["poly t", "drop t", "thread t 0 0 0 0 0 0 0 1 by", "drop t"])
        self.assertEqual(desk("states"), "a true, b false, c true, d false")
        desk = Desk()
        desk.do_all("poly p 9,0,1", "poly q 2,9,1", "change c p p", "claim s steady c", "claim u undone c")
        self.assertEqual(desk("states"), "s true, u false")
        self.assertEqual(desk("drop c"), "s gone, u gone")
        # The jacobian of this one is refused.
        self.assertEqual(desk("change c q q"), "u false")
        self.assertEqual(desk("states"), "s gone, u false")
        self.refused_value(InvalidClaim, ("uneven", desk["c"]), desk, "claim e uneven c")

    def test_names_and_things(self):
        desk = started()
        self.assertEqual(desk.names, ["c", "p", "q", "t", "w"])
        self.assertEqual(desk.labels, ["back", "run", "up"])
        self.assertEqual(desk["p"], X + Y * Y)
        self.assertEqual(desk["c"], Change(X + Y * Y, Y))
        self.assertEqual(repr(desk["t"]), "([Ratio(0, 1), Ratio(1, 1)], [])")
        self.assertEqual(repr(desk["w"]), repr((Change.same(), [((Ratio(1), Ratio(0)), [Ratio(0), Ratio(0), Ratio(1)])])))
        desk.names.append("x")
        desk.labels.append("x")
        desk.lines().append("x")
        desk["t"][0].append(5)
        desk["w"][1].append(5)
        desk["w"][1][0][1].append(5)
        desk.claim_of("run")[1][0].append(5)
        desk.claim_of("back")[1][1].append(5)
        self.assertEqual(whole(desk), whole(started()))
        for wrong in strange() + [0, 1, "x", "P", "up", "undo", ["c"], ("c",), X, desk, "c "]:
            with self.subTest(wrong):
                self.assert_bool(wrong in desk, False)
                self.refused_value(UnknownName, wrong, lambda name: desk[name], wrong)
        for name in desk.names:
            self.assert_bool(name in desk, True)

    def test_labels(self):
        desk = started()
        self.assertEqual(desk.claim_of("up"), ("undone", desk["c"]))
        self.assertEqual(desk.claim_of(label="back"), ("home", desk["w"]))
        for wrong in strange() + [0, 1, "x", "P", "c", "w", ["up"], ("up",), X, "up "]:
            with self.subTest(wrong):
                self.refused_value(UnknownLabel, wrong, desk.claim_of, wrong)
                self.refused_value(UnknownLabel, wrong, desk.fits, wrong)
                self.refused_value(UnknownLabel, wrong, desk.fits, label=wrong)
                self.refused_value(UnknownLabel, wrong, desk.attach, wrong, [])
                self.refused_value(UnknownLabel, wrong, desk.attach, paper=None, label=wrong)
        # A label may be a name, too.
        self.assertEqual(desk("claim c undone c"), "c true")
        self.assertEqual(desk("drop c"), "c gone, up gone")

    def test_twelve_names_and_labels(self):
        desk = Desk()
        for at in range(12):
            self.assertEqual(desk(f"poly p{at} 1,0,1"), "-")
        for command in ("poly more", "linear more 1 0 0 1 0 0", "thread more 0 1 by", "change more p1 p2"):
            self.refused(TooMany, {"what": "names", "limit": 12}, desk, command)
        self.refused(NameTaken, {"name": "p3"}, desk, "poly p3")
        self.refused(InvalidEntries, {"position": 0}, desk, "poly more 9,10,1")
        self.refused_value(InvalidThread, ([Ratio(5)], []), desk, "thread more 5 by")
        self.refused_value(UnknownName, "x", desk, "change more p1 x")
        self.assertEqual(desk("term p1 1 1 1"), "-")
        for at in range(12):
            self.assertEqual(desk(f"claim l{at} half p0"), f"l{at} true")
        self.refused(TooMany, {"what": "labels", "limit": 12}, desk, "claim more half p0")
        self.refused(LabelTaken, {"label": "l5"}, desk, "claim l5 half p0")
        self.refused_value(UnknownName, "x", desk, "claim more half x")
        self.assertEqual(desk("forget l5"), "-")
        self.assertEqual(desk("claim more half p0"), "more true")
        self.assertEqual(desk("drop p0"), ", ".join(sorted([f"l{at} gone" for at in range(12) if at != 5] + ["more gone"])))
        self.assertEqual(desk("poly more 0,1,1"), "-")
        self.assertEqual(len(desk), 12 + 1 + 12 + 1 + 1 + 1 + 1)

    def test_three_hundred_deeds(self):
        desk = Desk()
        desk("poly p 1,0,1")
        for at in range(299):
            desk(f"term p 0 0 {at}")
        self.assert_integer(len(desk), 300)
        kept = whole(desk)
        for command in ("term p 0 0 7", "poly q", "claim a half p", "drop p"):
            self.refused(TooMany, {"what": "deeds", "limit": 300}, desk, command)
        self.refused(UnknownLabel, {"value": "a"}, desk, "forget a")
        self.refused(NameTaken, {"name": "p"}, desk, "poly p")
        self.assertEqual(whole(desk), kept)
        self.assertEqual(desk("show p"), "0,0,298 1,0,1")
        self.assertEqual(desk("undo"), "term p 0 0 298")
        self.assertEqual(desk("claim a half p"), "a true")
        self.refused(TooMany, {"what": "deeds", "limit": 300}, desk, "forget a")
        self.assertEqual(len(Desk.again(desk.lines())), 300)
        self.refused(CommandFailed, {"position": 300}, Desk.again, desk.lines() + ["forget a"])
        desk("undo")
        self.assertEqual(desk("redo"), "claim a half p")

    def test_names_are_counted_ahead_of_deeds(self):
        desk = Desk()
        for at in range(12):
            desk(f"poly p{at} 1,0,1")
            desk(f"claim l{at} half p{at}")
        for at in range(276):
            desk("term p0 0 0 " + str(at % 5))
        self.refused(TooMany, {"what": "names", "limit": 12}, desk, "poly q")
        self.refused(TooMany, {"what": "labels", "limit": 12}, desk, "claim q half p0")
        self.refused(TooMany, {"what": "deeds", "limit": 300}, desk, "drop p0")


class ErrorTest(Case):
    def test_errors_in_their_sequence(self):
        desk = started()
        kept = whole(desk)
        for command, error, attributes in (
            ("poly p 99,0,1", NameTaken, {"name": "p"}), ("change p x y", NameTaken, {"name": "p"}),
            ("claim up undone x", LabelTaken, {"label": "up"}), ("change n x y", UnknownName, {"value": "x"}),
            ("change n p y", UnknownName, {"value": "y"}), ("change n c p", UnknownName, {"value": "c"}),
            ("behind n c p", UnknownName, {"value": "p"}), ("claim n half c", UnknownName, {"value": "c"}),
            ("claim n undone p", UnknownName, {"value": "p"}), ("claim n home t", UnknownName, {"value": "t"}),
            ("claim n once w", UnknownName, {"value": "w"}), ("stop w", UnknownName, {"value": "w"}), ("drop x", UnknownName, {"value": "x"}),
            ("show up", UnknownName, {"value": "up"}), ("state c", UnknownLabel, {"value": "c"}), ("claimed x", UnknownLabel, {"value": "x"}),
            ("forget w", UnknownLabel, {"value": "w"}), ("poly n 1,0,1 9,10,1", InvalidEntries, {"position": 1}),
            ("poly n 1,0,1 0,1,1 1,0,2", InvalidEntries, {"position": 2}), ("term p 9 10 1", InvalidEntries, {"position": 0}),
            ("term p 99 0 0", InvalidEntries, {"position": 0}), ("term x 99 0 0", UnknownName, {"value": "x"}),
            ("thread n by", InvalidThread, {"value": ([], [])}), ("thread n 5 by 7 0", InvalidThread, {"value": ([Ratio(5)], [Ratio(7), Ratio(0)])}),
            ("thread n" + " 0" * 19 + " 1 by", InvalidThread, {"value": ([Ratio(0)] * 19 + [Ratio(1)], [])}),
            ("shear n -" + " 1" * 32, InvalidLine, {"value": [Ratio(1)] * 32}), ("shear n -" + " 0" * 19 + " 1", TooMany, {"what": "degree", "limit": 18}),
            ("step c 0 1 0", InvalidStep, {"value": (0, Ratio(1), 0)}), ("step c 1 -1/2 19", InvalidStep, {"value": (1, Ratio(-1, 2), 19)}),
            ("step c 1 1 10", TooMany, {"what": "degree", "limit": 18}), ("rounds w 0", InvalidMany, {"value": 0}),
            ("rounds w 9", InvalidMany, {"value": 9}), ("step x 0 1 0", UnknownName, {"value": "x"}),
            ("redo", NothingToRedo, {}), ("undo x", InvalidCommand, {"value": "undo x"}), ("poly n 1,0,0", InvalidCommand, {"value": "poly n 1,0,0"}),
        ):
            with self.subTest(command):
                self.refused(error, attributes, desk.do, command)
                self.refused(error, attributes, desk, command=command)
                self.assertEqual(whole(desk), kept)

    def test_errors_of_what_makes_it(self):
        desk = Desk()
        desk.do_all("poly p 2,0,1", "poly q 0,1,1", "poly o 18,0,1", "poly k 0,0,5", "change c p q", "change b o o", "change f k k")
        desk.do_all("thread t 0 0 1 by 5", "thread s" + " 0" * 7 + " 1 by")
        for command, error, attributes in (
            ("undone n c", NotUndone, {}), ("word n c", NotUndone, {}), ("behind n b c", TooMany, {"what": "degree", "limit": 18}),
            ("lay n b t", TooMany, {"what": "degree", "limit": 18}), ("lay n f t", NoThread, {}), ("crossing s", TooMany, {"what": "degree", "limit": 6}),
            ("claim n crossed s", InvalidClaim, {"value": ("crossed", desk["s"])}), ("claim n straight s", InvalidClaim, {"value": ("straight", desk["s"])}),
        ):
            with self.subTest(command):
                kept = whole(desk)
                self.refused(error, attributes, desk.do, command)
                self.assertEqual(whole(desk), kept)
        desk.do_all("poly h 10,0,1 0,10,1", "poly g 9,2,1 2,9,1", "change e h g")
        self.refused_degree(18, desk.do, "jacobian e")
        desk.do_all("drop p", "drop o", "drop k", "drop h", "drop g")
        desk.do_all("shear a 0 0 0 1 1 1", "word v a")
        self.assertEqual(desk("rounds v 2"), "4 4")
        self.assertRaises(DividedByZero, Ratio(1).over, 0)

    def test_commands_of_all_kinds(self):
        desk = started()
        kept = whole(desk)
        for wrong in strange() + [0, 1, "Undo", "undo ", "", ["undo"], ("undo",), b"undo", X, "poly n 1,0", "names x", None]:
            with self.subTest(wrong):
                self.refused_value(InvalidCommand, wrong, desk.do, wrong)
                self.refused_value(InvalidCommand, wrong, desk, command=wrong)
                self.refused(CommandFailed, {"position": 0}, desk.do_all, wrong)
                self.refused(CommandFailed, {"position": 1}, desk.attempt, "drop c", wrong)
        self.assertEqual(whole(desk), kept)


class ManyCommandsTest(Case):
    def test_a_failure_at_each_place(self):
        commands = ["term p 1 1 1", "undo", "drop t", "poly n 1,0,2", "claim x none n", "show n", "forget up"]
        for wrong, error in (("drop zz", UnknownName), ("poly p", NameTaken), ("bad", InvalidCommand), ("claim run once t", LabelTaken)):
            for at in range(len(commands) + 1):
                desk = started()
                desk("undo")
                kept = whole(desk)
                told = commands[:at] + [wrong] + commands[at:]
                for action in (desk.do_all, desk.attempt):
                    with self.assertRaises(CommandFailed) as caught:
                        action(*told)
                    self.assertEqual(vars(caught.exception), {"position": at})
                    self.assertIs(caught.exception.__cause__.__class__, error)
                    self.assertEqual(whole(desk), kept)

    def test_do_all(self):
        desk, other = started(), started()
        commands = ["term p 1 1 1", "show p", "undo", "redo", "drop t", "states"]
        self.assertEqual(desk.do_all(*commands), [other(command) for command in commands])
        self.assertEqual(whole(desk), whole(other))
        self.assert_alike(desk.do_all(), [])

    def test_attempt(self):
        desk, other = started(), started()
        desk.do_all("drop t", "undo")
        other.do_all("drop t", "undo")
        commands = ["term p 1 1 1", "show p", "undo", "drop w", "states", "poly n", "names"]
        kept = whole(desk)
        self.assertEqual(desk.attempt(*commands), other.do_all(*commands))
        self.assertEqual(whole(desk), kept)
        self.assertEqual(desk("redo"), "drop t")
        self.assert_alike(desk.attempt(), [])


class CopyTest(Case):
    def test_copies_go_on_by_themselves(self):
        desk = started()
        desk.attach("up", [(0, 1, 2)])
        desk.do_all("drop t", "poly n", "undo", "undo")
        kept = whole(desk)
        held = desk.copy()
        self.assertIs(held.__class__, Desk)
        self.assertEqual(whole(held), kept)
        self.assertEqual(held.do_all("redo", "redo", "forget up"), ["drop t", "poly n", "-"])
        self.assertEqual(whole(desk), kept)
        other = desk.copy()
        moved = whole(held)
        desk.do_all("drop c", "drop w")
        self.assertEqual(whole(held), moved)
        self.assertEqual(whole(other), kept)
        self.assert_bool(other.fits("up"), True)
        self.assert_bool(desk.fits("up"), False)

    def test_again(self):
        desk = started()
        desk.do_all("drop t", "undo", "term p 1 1 1", "forget run")
        desk.attach("up", [(0, 1, 2)])
        for lines in (desk.lines(), tuple(desk.lines())):
            found = Desk.again(lines)
            self.assertEqual((found.names, found.labels, found.lines()), (desk.names, desk.labels, desk.lines()))
            self.assertEqual([repr(found[name]) for name in found.names], [repr(desk[name]) for name in desk.names])
            self.assert_bool(found.fits("up"), False)
        self.assertEqual(Desk.again(lines=[]).names, [])
        for wrong in not_lists():
            self.refused(InvalidLines, {"position": None}, Desk.again, wrong)
            self.refused(InvalidLines, {"position": None}, Desk.again, lines=wrong)
        for wrong in strange() + ["undo", "redo", "names", "show p", "Poly p", "poly p 0,0,0", 0]:
            self.refused(InvalidLines, {"position": 1}, Desk.again, ["poly p", wrong, "poly p"])
            self.refused(InvalidLines, {"position": 0}, Desk.again, (wrong, None))
        for position, lines in ((1, ["poly p", "poly p"]), (0, ["drop p", "poly p"]), (2, ["poly p", "drop p", "term p 1 0 1"])):
            with self.assertRaises(CommandFailed) as caught:
                Desk.again(lines)
            self.assertEqual(caught.exception.position, position)
            self.assertIsInstance(caught.exception.__cause__, OWN)


class PaperTest(Case):
    def test_papers_of_each_claim(self):
        desk = started()
        desk.do_all("thread s 0 0 1 by 0 0 0 0 1", "poly n 2,1,1", "change k n q", "linear r 0 1 -1 0 0 0", "word z r")
        told = 0
        for name, pairs in (
            ("c", ("undone stuck", "steady uneven")), ("k", ("undone stuck", "steady uneven")), ("p", ("half none",)),
            ("n", ("half none",)), ("t", ("straight crossed", "once again")), ("s", ("straight crossed", "once again")),
            ("w", ("home never",)), ("z", ("home never",)),
        ):
            for words in pairs:
                for word in words.split():
                    self.assertEqual(desk(f"claim l {word} {name}"), f"l {desk('state l')}")
                    claim = desk.claim_of("l")
                    paper = paper_of(claim) if desk("state l") == "true" else paper_of(contrary(claim))
                    self.assertIsNone(desk.attach("l", paper))
                    self.assert_bool(desk.fits("l"), True)
                    self.assertEqual(len(desk), len(desk.lines()))
                    self.refused_value(InvalidPaper, "paper", desk.attach, "l", "paper")
                    self.assert_bool(desk.fits(label="l"), True)
                    desk("forget l")
                    told += 1
        self.assertEqual(told, 24)

    def test_what_is_no_paper(self):
        desk = started()
        kept = whole(desk)
        for wrong in strange() + [0, 1, [], [(0, 1, 3)], ([(0, 1, 2)], "flat"), ([], "heads"), [(0, True, 2)], X]:
            with self.subTest(wrong):
                if not is_paper_of(desk.claim_of("up"), wrong):
                    self.refused_value(InvalidPaper, wrong, desk.attach, "up", wrong)
                    self.refused_value(InvalidPaper, wrong, desk.attach, paper=wrong, label="up")
                    self.assertEqual(whole(desk), kept)
        desk("drop c")
        self.refused_value(InvalidPaper, [(0, 1, 2)], desk.attach, "up", [(0, 1, 2)])

    def test_they_fit_and_no_longer_and_again(self):
        desk = started()
        self.assert_bool(desk.fits("up"), False)
        desk.attach(paper=[(0, 1, 2)], label="up")
        self.assert_integer(len(desk), 8)
        self.assert_bool(desk.fits("up"), True)
        desk("step c 0 1 2")
        self.assert_bool(desk.fits("up"), False)
        desk("undo")
        self.assert_bool(desk.fits("up"), True)
        desk("drop c")
        self.assert_bool(desk.fits("up"), False)
        desk("poly c 1,0,1")
        self.assert_bool(desk.fits("up"), False)
        desk.do_all("undo", "undo")
        self.assert_bool(desk.fits("up"), True)
        # Where the label is forgotten and noted again in the very same words it still fits, else it does not.
        desk("forget up")
        self.refused_value(UnknownLabel, "up", desk.fits, "up")
        desk("claim up undone c")
        self.assert_bool(desk.fits("up"), True)
        desk.do_all("forget up", "claim up stuck c")
        self.assert_bool(desk.fits("up"), False)
        desk.do_all("change b p q", "forget up", "claim up undone b")
        self.assert_bool(desk.fits("up"), False)
        desk.do_all("forget up", "claim up undone c")
        self.assert_bool(desk.fits("up"), True)
        desk.attach("up", ([(0, 1, 2)], "x")[0] + [(1, 5, 1)])
        self.assert_bool(desk.fits("up"), True)

    def test_a_paper_of_the_contrary(self):
        desk = Desk()
        desk.do_all("poly p 1,0,1 1,1,1", "poly q 0,1,1", "change c p q", "claim up undone c")
        self.assertEqual(desk("state up"), "false")
        desk.attach("up", ([], "heads"))
        self.assert_bool(desk.fits("up"), True)
        desk.do_all("drop c", "linear c 1 0 0 1 0 0")
        self.assertEqual(desk("state up"), "true")
        # It was kept for the contrary, which is not true now.
        self.assert_bool(desk.fits("up"), False)
        desk.attach("up", [])
        self.assert_bool(desk.fits("up"), True)
        desk.do_all("undo", "undo")
        self.assert_bool(desk.fits("up"), False)
        desk.attach("up", ([], "heads"))
        self.assert_bool(desk.fits("up"), True)

    def test_a_paper_is_copied(self):
        desk = started()
        paper = [(0, 1, 2)]
        desk.attach("up", paper)
        paper.append((0, 1, 2))
        self.assert_bool(desk.fits("up"), True)
        points = ([0, 0, 0, 1], [3])
        desk.do_all("thread s 0 0 0 0 0 0 1 by 3", "claim a again s")
        desk.attach("a", (points, [0, 0, 1]))
        points[0].append(7)
        self.assert_bool(desk.fits("a"), True)


class TrialTest(Case):
    def test_all_is_as_it_was(self):
        desk = started()
        desk.attach("up", [(0, 1, 2)])
        desk.do_all("drop t", "undo")
        kept = whole(desk)
        with Trial(desk) as held:
            self.assertIs(held, desk)
            held.do_all("drop c", "forget up", "poly n", "undo")
            desk("claim up none p")
            desk.attach("run", desk.claim_of("run") and Change.same())
            self.assertNotEqual(whole(desk), kept)
        self.assertEqual(whole(desk), kept)
        self.assert_bool(desk.fits("run"), False)
        self.assertEqual(desk("redo"), "drop t")

    def test_an_error_leaves_the_block(self):
        desk = started()
        kept = whole(desk)
        with self.assertRaises(KeyError):
            with Trial(desk) as held:
                held("drop c")
                raise KeyError("out")
        self.assertEqual(whole(desk), kept)
        with self.assertRaises(UnknownName) as caught:
            with Trial(desk):
                desk.do_all("drop c", "drop p")
                desk("drop c")
        self.assertEqual(caught.exception.value, "c")
        self.assertEqual(whole(desk), kept)

    def test_one_behind_the_other_and_within(self):
        desk = started()
        trial = Trial(desk=desk)
        for command in ("drop c", "drop p"):
            kept = whole(desk)
            with trial:
                desk(command)
                inside = whole(desk)
                with Trial(desk) as held:
                    held("drop q")
                self.assertEqual(whole(desk), inside)
            self.assertEqual(whole(desk), kept)
            desk("term p 0 0 " + str(len(command)))

    def test_tried(self):
        desk = started()
        kept = whole(desk)
        self.assertEqual(tried(desk, lambda held: held.do_all("drop c", "names")), ["up gone", "p q t w"])
        self.assertEqual(whole(desk), kept)
        self.assertIs(tried(desk, lambda held: held), desk)
        self.assertIsNone(tried(action=lambda held: None, desk=desk))
        with self.assertRaises(ZeroDivisionError):
            tried(desk, lambda held: held("drop c") and 1 // 0)
        with self.assertRaises(UnknownName):
            tried(desk, lambda held: held.do_all("drop c") and held("drop c"))
        self.assertEqual(whole(desk), kept)

    def test_a_copy_made_within_stays(self):
        desk = started()
        with Trial(desk):
            desk("drop c")
            held = desk.copy()
        self.assertNotIn("c", held)
        self.assertIn("c", desk)
