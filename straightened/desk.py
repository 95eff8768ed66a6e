"""A desk that keeps things under names and claims under labels, and whose deeds can be taken back."""

from straightened.answers import answer_of, or_dash, shown_list
from straightened.claims import contrary, copied, holds, is_claim, is_of_kind, is_paper_of, kind_of_claim
from straightened.commands import is_deed, is_name, kinds_of, told_words
from straightened.deeds import made_thing
from straightened.errors import (
    BendError, CommandFailed, InvalidClaim, InvalidCommand, InvalidLines, InvalidPaper, LabelTaken, LimitError,
    MissingError, NameTaken, NothingToRedo, NothingToUndo, StateError, TooMany, UnknownLabel, UnknownName,
)

MOST_NAMES = 12
MOST_LABELS = 12
MOST_DEEDS = 300


class Held:
    """All that a desk holds at one time. It never changes, so desks may share it and go back to it."""

    def __init__(self, things, claims, states, papers, past, coming):
        self.things = things
        self.claims = claims
        self.states = states
        self.papers = papers
        # Tuples of a deed's line with what was held ahead of it, where it can be taken back, and with what was held
        # behind it, where it can be done again.
        self.past = past
        self.coming = coming


class Desk:
    """Keeps things under names, notes claims under labels, and tells how the claims' states change."""

    def __init__(self):
        self._held = Held({}, {}, {}, {}, [], [])

    @property
    def names(self):
        return sorted(self._held.things)

    @property
    def labels(self):
        return sorted(self._held.claims)

    def __len__(self):
        return len(self._held.past)

    def __contains__(self, value):
        return is_name(value) and value in self._held.things

    def __getitem__(self, name):
        if not is_name(name) or name not in self._held.things:
            raise UnknownName(name)
        return copied(self._held.things[name])

    def __iter__(self):
        raise TypeError("a desk is not iterated over")

    def __call__(self, command):
        return self.do(command)

    def claim_of(self, label):
        """The claim noted under the label, with what is kept now; None while its state is gone."""
        check_label(self._held, label)
        return copied(claim_now(self._held, label))

    def do(self, command):
        """Do the command, and tell its answer."""
        self._held, answer = done(self._held, command)
        return answer

    def do_all(self, *commands):
        """Do the commands, and tell the list of their answers; none has an effect if one fails."""
        self._held, answers = done_all(self._held, commands)
        return answers

    def attempt(self, *commands):
        """The answers that do_all would tell; nothing is changed."""
        return done_all(self._held, commands)[1]

    def attach(self, label, paper):
        """Keep the paper of the label's claim, or of its contrary, with the label."""
        self._held = with_paper(self._held, label, paper)

    def fits(self, label):
        """Whether the paper that is kept with the label is for its claim as it is told now, and still is one."""
        check_label(self._held, label)
        return is_paper_fit(self._held, label)

    def lines(self):
        """The lines of the deeds that are not taken back."""
        return [line for line, _ in self._held.past]

    def copy(self):
        """A desk that holds the same, and goes on by itself."""
        desk = Desk()
        desk._held = self._held
        return desk

    @classmethod
    def again(cls, lines):
        """A desk that has done these deeds."""
        if not isinstance(lines, (list, tuple)):
            raise InvalidLines(None)
        for position, line in enumerate(lines):
            if not is_deed(line):
                raise InvalidLines(position)
        desk = cls()
        desk._held = done_all(desk._held, lines)[0]
        return desk


class Trial:
    """For one with block at a time: behind it the desk is as it was ahead of it."""

    def __init__(self, desk):
        self._desk = desk
        self._ahead = None

    def __enter__(self):
        self._ahead = self._desk._held
        return self._desk

    def __exit__(self, kind, value, trace):
        desk = self._desk
        desk._held = self._ahead


def tried(desk, action):
    """What the action returns for the desk, which is behind it as it was ahead of it."""
    with Trial(desk) as held:
        return action(held)


def done_all(held, commands):
    """The tuple of what is held behind the commands, and of the list of their answers."""
    answers = []
    for position, command in enumerate(commands):
        try:
            held, answer = done(held, command)
        except (BendError, MissingError, StateError, LimitError) as error:
            raise CommandFailed(position) from error
        answers.append(answer)
    return held, answers


def done(held, command):
    """The tuple of what is held behind the command, and of its answer."""
    found = told_words(command) if isinstance(command, str) else None
    if found is None:
        raise InvalidCommand(command)
    word, values = found
    check_names(held, word, values)
    match word:
        case "undo":
            return taken_back(held)
        case "redo":
            return done_again(held)
        case "state":
            return held, held.states[values[0]]
        case "states":
            return held, shown_states(held.states, sorted(held.states))
        case "claimed":
            return held, " ".join(held.claims[values[0]])
        case "names":
            return held, or_dash(" ".join(sorted(held.things)))
        case _:
            if is_deed(command):
                return deed_done(held, command, word, values)
            return held, answer_of(word, things_put(held, word, values))


def check_names(held, word, values):
    """Refuse names and labels that are taken, then names of nothing of the wanted kind, then labels of no claim."""
    told = list(zip(kinds_of(word), values))
    for kind, value in told:
        if kind == "new" and value in held.things:
            raise NameTaken(value)
        if kind == "fresh" and value in held.claims:
            raise LabelTaken(value)
    for kind, value in told:
        wanted = kind_of_claim(values[1]) if word == "claim" else kind
        if is_thing_kind(kind) and not is_kept(held, wanted, value):
            raise UnknownName(value)
    for kind, value in told:
        if kind == "label":
            check_label(held, value)


def is_thing_kind(kind):
    """Whether a command's word of this kind is the name of a thing."""
    return kind in ("name", "stopped", "poly", "change", "thread", "word")


def is_kept(held, kind, name):
    """Whether a thing of the kind is kept under the name; stopped are all kinds but words."""
    if name not in held.things:
        return False
    if kind == "stopped":
        return not is_of_kind("word", held.things[name])
    return kind == "name" or is_of_kind(kind, held.things[name])


def check_label(held, value):
    """Refuse any value that is no label of a claim."""
    if not is_name(value) or value not in held.claims:
        raise UnknownLabel(value)


def things_put(held, word, values):
    """The values behind the command's word, the things in the place of their names, without a new name."""
    found = []
    for kind, value in zip(kinds_of(word), values):
        if kind != "new":
            found.append(held.things[value] if is_thing_kind(kind) else value)
    return found


def deed_done(held, command, word, values):
    """The tuple of what is held behind the deed, and of its answer."""
    things, claims = dict(held.things), dict(held.claims)
    match word:
        case "claim":
            check_claimed(values[1], held.things[values[2]])
            claims[values[0]] = (values[1], values[2])
        case "forget":
            del claims[values[0]]
        case "drop":
            del things[values[0]]
        case _:
            things[values[0]] = made_thing(word, things_put(held, word, values))
    refuse_more("names", MOST_NAMES, len(things))
    refuse_more("labels", MOST_LABELS, len(claims))
    refuse_more("deeds", MOST_DEEDS, len(held.past) + 1)
    states = states_behind(held, things, claims, values[0])
    changed = [label for label in states if held.states.get(label) != states[label]]
    behind = Held(things, claims, states, held.papers, held.past + [(command, held)], [])
    return behind, shown_states(states, changed)


def check_claimed(word, thing):
    """Refuse what is no claim."""
    if not is_claim((word, thing)):
        raise InvalidClaim((word, copied(thing)))


def refuse_more(what, limit, many):
    """Refuse so many, if that is more than the limit."""
    if many > limit:
        raise TooMany(what, limit)


def states_behind(held, things, claims, touched):
    """The states of the claims, of which only those of what is touched can be other ones than ahead."""
    found = {}
    for label in sorted(claims):
        if label in held.states and claims[label][1] != touched:
            found[label] = held.states[label]
        else:
            found[label] = state_of(things, claims[label])
    return found


def state_of(things, claim):
    """The state of the claim, told by its word and the name of a thing."""
    word, name = claim
    if name not in things or not is_claim((word, things[name])):
        return "gone"
    return "true" if holds(word, things[name]) else "false"


def shown_states(states, labels):
    """The labels, each with its state; - for none."""
    return shown_list([f"{label} {states[label]}" for label in labels])


def taken_back(held):
    """The tuple of what is held behind the last deed's being taken back, and of its line."""
    if not held.past:
        raise NothingToUndo()
    line, ahead = held.past[-1]
    coming = held.coming + [(line, held)]
    return Held(ahead.things, ahead.claims, ahead.states, held.papers, held.past[:-1], coming), line


def done_again(held):
    """The tuple of what is held behind the deed's being done again, and of its line."""
    if not held.coming:
        raise NothingToRedo()
    line, behind = held.coming[-1]
    past = held.past + [(line, held)]
    return Held(behind.things, behind.claims, behind.states, held.papers, past, held.coming[:-1]), line


def claim_now(held, label):
    """The claim of the label with what is kept now; None while its state is gone."""
    if held.states[label] == "gone":
        return None
    word, name = held.claims[label]
    return word, held.things[name]


def with_paper(held, label, paper):
    """What is held with the paper kept with the label."""
    check_label(held, label)
    claim = claim_now(held, label)
    if claim is None:
        raise InvalidPaper(paper)
    if is_paper_of(claim, paper):
        side = claim[0]
    elif is_paper_of(contrary(claim), paper):
        side = contrary(claim)[0]
    else:
        raise InvalidPaper(paper)
    papers = dict(held.papers)
    papers[label] = (held.claims[label], side, copied(paper))
    return Held(held.things, held.claims, held.states, papers, held.past, held.coming)


def is_paper_fit(held, label):
    """Whether the paper that is kept with the label fits."""
    claim = claim_now(held, label)
    if claim is None or label not in held.papers:
        return False
    words, side, paper = held.papers[label]
    return words == held.claims[label] and is_paper_of((side, claim[1]), paper)
