"""A slow desk to hold the package's one against: everything is reckoned anew at each question."""

import re

from straightened.changes import Change, jacobian
from straightened.claims import is_claim, is_true
from straightened.commands import is_command
from straightened.crossings import crossing_line
from straightened.errors import (
    InvalidClaim, InvalidCommand, InvalidEntries, LabelTaken, NameTaken, NothingToRedo, NothingToUndo, TooMany,
    UnknownLabel, UnknownName,
)
from straightened.halves import half_stop
from straightened.polys import Poly
from straightened.ratios import Ratio
from straightened.rounds import home, pace, round_degrees
from straightened.shears import shear
from straightened.steps import led, own_steps, taken
from straightened.stops import stop
from straightened.straights import straight
from straightened.threads import changed_thread, is_thread, thread_at, thread_stop, told_thread
from straightened.turned import least, turned
from straightened.undoing import undone
from straightened.walked import walked
from straightened.words import degree_of, is_word, same_word, word_change, word_of

KINDS = {
    "poly": lambda value: isinstance(value, Poly), "change": lambda value: isinstance(value, Change),
    "word": is_word, "thread": lambda value: is_thread(value) and not is_word(value), "any": lambda value: True,
    "stops": lambda value: not is_word(value),
}
CLAIM_KINDS = {
    "undone": "change", "stuck": "change", "steady": "change", "uneven": "change", "half": "poly", "none": "poly",
    "straight": "thread", "crossed": "thread", "once": "thread", "again": "thread", "home": "word", "never": "word",
}
# The kinds of the names behind the deeds' words; what comes behind a deed that keeps its first name is a NEW one.
NEW = {
    "poly": [], "change": ["poly", "poly"], "linear": [], "shear": [], "first": ["change"], "second": ["change"],
    "behind": ["change", "change"], "undone": ["change"], "led": ["change"], "thread": [], "lay": ["change", "thread"],
    "word": ["change"], "made": ["word"], "turned": ["word"], "least": ["word"],
}
SAME = {"term": ["poly"], "step": ["change"], "drop": ["any"]}
ASKED = {
    "show": ["any"], "degree": ["any"], "stop": ["stops"], "steps": ["change"], "jacobian": ["change"], "at": ["change"],
    "on": ["thread"], "pace": ["word"], "home": ["word"], "rounds": ["word"], "walked": ["thread"], "crossing": ["thread"],
    "same": ["word", "word"],
}


def number(word):
    top, _, bottom = word.partition("/")
    return Ratio(int(top), int(bottom or 1))


def numbers(words):
    return [number(word) for word in words]


def direction(word):
    return (0, 1) if word == "-" else (1, number(word))


def product(word):
    i, j, amount = word.split(",")
    return int(i), int(j), number(amount)


def line_word(line):
    return " ".join([str(one) for one in line]) or "-"


def poly_word(poly):
    return " ".join([f"{i},{j},{amount}" for i, j, amount in poly.entries()]) or "-"


def shown(thing):
    if isinstance(thing, Poly):
        return poly_word(thing)
    if isinstance(thing, Change):
        return poly_word(thing.first) + " by " + poly_word(thing.second)
    if not is_word(thing):
        return line_word(thing[0]) + " by " + line_word(thing[1])
    halves = [thing[0].first, thing[0].second]
    told = [half.amount(i, 1 - i) for half in halves for i in (1, 0)] + [half.amount(0, 0) for half in halves]
    parts = [line_word(told)]
    for (ahead, behind), line in thing[1]:
        parts.append(("-" if ahead == Ratio(0) else str(behind)) + " " + line_word(line[2:]))
    return ", ".join(parts)


class Model:
    """Things by names, tuples (word, name) by labels, and the whole of both ahead of each deed."""

    def __init__(self):
        self.things, self.claims, self.past, self.coming = {}, {}, [], []

    def state(self, label, things=None, claims=None):
        word, name = (self.claims if claims is None else claims)[label]
        things = self.things if things is None else things
        if name not in things or not KINDS[CLAIM_KINDS[word]](things[name]) or not is_claim((word, things[name])):
            return "gone"
        return "true" if is_true((word, things[name])) else "false"

    def do(self, command):
        """The answer; raises what the desk has to raise, and changes nothing then."""
        if not is_command(command):
            raise InvalidCommand(command)
        word, *rest = command.split(" ")
        if word in NEW or word in SAME or word in ("claim", "forget"):
            return self.deed(command, word, rest)
        if word == "undo":
            if not self.past:
                raise NothingToUndo()
            line, things, claims = self.past.pop()
            self.coming.append((line, self.things, self.claims))
            self.things, self.claims = things, claims
            return line
        if word == "redo":
            if not self.coming:
                raise NothingToRedo()
            line, things, claims = self.coming.pop()
            self.past.append((line, self.things, self.claims))
            self.things, self.claims = things, claims
            return line
        if word in ("state", "claimed"):
            if rest[0] not in self.claims:
                raise UnknownLabel(rest[0])
            return self.state(rest[0]) if word == "state" else " ".join(self.claims[rest[0]])
        if word == "states":
            return ", ".join([f"{label} {self.state(label)}" for label in sorted(self.claims)]) or "-"
        if word == "names":
            return " ".join(sorted(self.things)) or "-"
        return self.ask(word, self.known(ASKED[word], rest), rest)

    def known(self, kinds, names):
        found = []
        for kind, name in zip(kinds, names):
            if name not in self.things or not KINDS[kind](self.things[name]):
                raise UnknownName(name)
            found.append(self.things[name])
        return found

    def deed(self, command, word, rest):
        things, claims = dict(self.things), dict(self.claims)
        if word in NEW:
            if rest[0] in things:
                raise NameTaken(rest[0])
            things[rest[0]] = self.make(word, self.known(NEW[word], rest[1:]), rest[1:])
        elif word == "claim":
            label, claimed, name = rest
            if label in claims:
                raise LabelTaken(label)
            thing = self.known([CLAIM_KINDS[claimed]], [name])[0]
            if not is_claim((claimed, thing)):
                raise InvalidClaim((claimed, thing))
            claims[label] = (claimed, name)
        elif word == "forget":
            if rest[0] not in claims:
                raise UnknownLabel(rest[0])
            del claims[rest[0]]
        else:
            thing = self.known(SAME[word], rest)[0]
            if word == "drop":
                del things[rest[0]]
            else:
                things[rest[0]] = self.changed(word, thing, rest)
        for what, limit, many in (("names", 12, len(things)), ("labels", 12, len(claims)), ("deeds", 300, len(self.past) + 1)):
            if many > limit:
                raise TooMany(what, limit)
        told = []
        for label in sorted(claims):
            ahead = self.state(label) if label in self.claims else None
            now = self.state(label, things, claims)
            if ahead != now:
                told.append(f"{label} {now}")
        self.past.append((command, self.things, self.claims))
        self.things, self.claims, self.coming = things, claims, []
        return ", ".join(told) or "-"

    def changed(self, word, thing, rest):
        if word == "step":
            return taken(thing, (int(rest[1]), number(rest[2]), int(rest[3])))
        i, j, amount = int(rest[1]), int(rest[2]), number(rest[3])
        if i + j > 18:
            raise InvalidEntries(0)
        moved = Poly([(i, j, amount)]) if amount.sign else Poly()
        old = thing.amount(i, j)
        return thing - (Poly([(i, j, old)]) if old.sign else Poly()) + moved

    def make(self, word, known, rest):
        if word == "poly":
            return Poly([product(one) for one in rest])
        if word == "linear":
            a, b, c, d, e, f = numbers(rest)
            return straight([[a, b], [c, d]], (e, f))
        if word == "shear":
            return shear(direction(rest[0]), numbers(rest[1:]))
        if word == "thread":
            at = rest.index("by")
            return told_thread((numbers(rest[:at]), numbers(rest[at + 1:])))
        makers = {
            "change": Change, "first": lambda one: one.first, "second": lambda one: one.second,
            "behind": lambda one, two: one.behind(two), "undone": undone, "led": led, "lay": changed_thread, "word": word_of,
            "made": word_change, "turned": turned, "least": lambda one: least(one)[0],
        }
        return makers[word](*known)

    def ask(self, word, known, rest):
        thing = known[0]
        if word == "show":
            return shown(thing)
        if word == "degree":
            if isinstance(thing, (Poly, Change)):
                return str(thing.degree)
            return str(degree_of(thing) if is_word(thing) else max([len(line) - 1 for line in thing]))
        if word == "stop":
            stops = half_stop if isinstance(thing, Poly) else stop if isinstance(thing, Change) else thread_stop
            return stops(thing) or "-"
        if word == "steps":
            return ", ".join([" ".join([str(part) for part in step]) for step in own_steps(thing)]) or "-"
        if word == "jacobian":
            return poly_word(jacobian(thing))
        if word == "at":
            return line_word(thing.at((number(rest[1]), number(rest[2]))))
        if word == "on":
            return line_word(thread_at(thing, number(rest[1])))
        if word == "rounds":
            return " ".join([str(one) for one in round_degrees(thing, int(rest[1]))])
        if word == "crossing":
            return line_word(crossing_line(thing))
        if word == "same":
            return "yes" if same_word(*known) else "no"
        found = {"pace": pace, "home": home, "walked": walked}[word](thing)
        return "-" if found is None else str(found)


def plain(line):
    """Whether a line of an answer has no blank too many."""
    return not re.search("^ | $|  |\n", line)
