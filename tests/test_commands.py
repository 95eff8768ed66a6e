"""straightened.commands: points 95, 97 and 98."""

import re
from fractions import Fraction

from straightened.commands import is_command, is_deed, is_name
from straightened.polys import Poly
from tests.helpers import Case, Draw, strange

NAME = "[a-z][a-z0-9]{0,7}"
COUNT = "(?:0|[1-9][0-9]?)"
WHOLE = "(?:0|-?[1-9][0-9]{0,5})"
NUMBER = f"(?:{WHOLE}(?:/[1-9][0-9]{{0,5}})?)"
AMOUNT = f"(?!0(?: |,|$)){NUMBER}"
DIRECTION = f"(?:-|{NUMBER})"
CLAIMS = "(?:undone|stuck|steady|uneven|half|none|straight|crossed|once|again|home|never)"

DEEDS = {
    "poly": f" {NAME}(?: {COUNT},{COUNT},{AMOUNT})*", "term": f" {NAME} {COUNT} {COUNT} {NUMBER}",
    "change": f" {NAME} {NAME} {NAME}", "linear": f" {NAME}(?: {NUMBER}){{6}}",
    "shear": f" {NAME} {DIRECTION}(?: {NUMBER})+", "first": f" {NAME} {NAME}", "second": f" {NAME} {NAME}",
    "behind": f" {NAME} {NAME} {NAME}", "undone": f" {NAME} {NAME}", "step": f" {NAME} [01] {AMOUNT} {COUNT}",
    "led": f" {NAME} {NAME}", "thread": f" {NAME}(?: {NUMBER})* by(?: {NUMBER})*", "lay": f" {NAME} {NAME} {NAME}",
    "word": f" {NAME} {NAME}", "made": f" {NAME} {NAME}", "turned": f" {NAME} {NAME}", "least": f" {NAME} {NAME}",
    "drop": f" {NAME}", "claim": f" {NAME} {CLAIMS} {NAME}", "forget": f" {NAME}",
}
OTHERS = {
    "undo": "", "redo": "", "state": f" {NAME}", "states": "", "claimed": f" {NAME}", "names": "", "show": f" {NAME}",
    "degree": f" {NAME}", "stop": f" {NAME}", "steps": f" {NAME}", "jacobian": f" {NAME}",
    "at": f" {NAME} {NUMBER} {NUMBER}", "on": f" {NAME} {NUMBER}", "pace": f" {NAME}", "home": f" {NAME}",
    "rounds": f" {NAME} {COUNT}", "walked": f" {NAME}", "crossing": f" {NAME}", "same": f" {NAME} {NAME}",
}

RIGHT = """poly p
poly p 0,0,1
poly p 2,0,1 0,1,-3/2
poly p 99,0,-999999/999998 7,7,123456
poly a2345678 0,10,1
term p 0 0 0
term p 18 99 -1/2
change c p q
change c c c
linear s 1 0 0 1 0 0
linear s 1/2 -3/4 0 999999 -999999 1/999999
shear s - 0
shear s - 0 0 1
shear s 0 5
shear s -1/2 0 0 1 -2 3/4
first p c
second q c
behind a b c
undone a b
led a b
step c 0 1 0
step c 1 -1/2 99
thread t by
thread t 0 1 by
thread t by 0 1
thread by 0 1/2 by 5
thread t 1 2 3 by -4 5 0
lay u c t
word w c
made c w
turned v w
least v w
drop p
claim up undone c
claim a stuck b
claim a steady b
claim a uneven b
claim a half b
claim none none none
claim a straight b
claim a crossed b
claim a once b
claim a again b
claim a home b
claim never never never
forget up
undo
redo
state up
states
claimed up
names
show p
degree w
stop c
steps c
jacobian c
at c 1 -2/3
on t 1/2
pace w
home w
rounds w 8
rounds w 0
rounds w 99
walked t
crossing t
same w v""".split("\n")

WRONG = """undo 1
redo p
names p
states up
state
drop
drop p q
drop P
drop 1p
drop p2345678x
drop -
poly
poly P
poly p 2,0,0
poly p 2,0
poly p 2,0,1,1
poly p 2, 0,1
poly p 100,0,1
poly p 0,100,1
poly p 0,01,1
poly p 1,x,1
poly p 02,0,1
poly p -1,0,1
poly p 2,0,2/4
poly p 2,0,1000000
poly p 2,0,1/1000000
poly p 2,0,-0
poly p 2,0,1 q
poly 2,0,1
term p 0 0
term p 0 0 1 1
term p 100 0 1
term p 0 00 1
term p 1/2 0 1
change c p
change c p q r
linear s 1 0 0 1 0
linear s 1 0 0 1 0 0 0
linear 1 0 0 1 0 0
shear s -
shear s 0
shear s
shear s - x
shear s -- 1
shear s y 1
step c 2 1 1
step c -1 1 1
step c 00 1 1
step c 0 0 1
step c 0 1 100
step c 0 1
step c 0 1 1 1
step c 0 1 1/2
thread t
thread t 0 1
thread t 0 1 by by
thread t by 0 by 1
thread t 0 1 By 1
thread by
thread t 0,1 by
claim up undone
claim undone c
claim up Undone c
claim up done c
claim up undone c d
claim up undone 1
claim 1 undone c
forget
at c 1
at c 1 2 3
at 1 2
on t
on t 1 2
rounds w
rounds w -1
rounds w 1/2
rounds w 100
rounds w 08
same w
same w v u
show
show p q
Undo
UNDO
undone c
lead a b
do undo
poly p 0,0,+1
poly p 0,0,1.5
on t 0/1
on t 5/1
on t 1/-2
on t 00""".split("\n")


def slow_is_command(text, table):
    word, _, rest = text.partition(" ")
    if word not in table or not re.fullmatch(table[word], text[len(word):]):
        return False
    fractions = re.findall("-?[0-9]+/[0-9]+", rest)
    return all([str(Fraction(one)) == one for one in fractions])


class NameTest(Case):
    def test_names(self):
        for name in ("a", "z", "p2", "a1234567", "abcdefgh", "undo", "by", "z9z9z9z9", "none"):
            self.assert_bool(is_name(name), True)
            self.assert_bool(is_name(value=name), True)
        for wrong in strange() + [
            0, 1, "A", "1", "1a", "a_", "a-b", "a b", " a", "a ", "abcdefghi", "a12345678", "-", "a.", "aB", "a\n", ["a"], ("a",),
            b"a", Poly.x(), "a/1",
        ]:
            with self.subTest(wrong):
                self.assert_bool(is_name(wrong), isinstance(wrong, str) and re.fullmatch(NAME, wrong) is not None)


class CommandTest(Case):
    def check(self, text):
        wanted = slow_is_command(text, DEEDS | OTHERS)
        self.assert_bool(is_command(text), wanted)
        self.assert_bool(is_command(value=text), wanted)
        self.assert_bool(is_deed(text), slow_is_command(text, DEEDS))
        return wanted

    def test_each_command_of_the_table(self):
        self.assertEqual({text.split(" ")[0] for text in RIGHT}, set(DEEDS | OTHERS))
        for text in RIGHT:
            with self.subTest(text):
                self.assertTrue(self.check(text))
                self.assert_bool(is_deed(value=text), text.split(" ")[0] in DEEDS)

    def test_wrong_ones(self):
        for text in WRONG:
            with self.subTest(text):
                self.assertFalse(self.check(text))

    def test_words_changed(self):
        """Each word left out, doubled, exchanged, changed, each blank doubled, a blank ahead and behind."""
        draw, found = Draw(2401), []
        for text in RIGHT:
            words = text.split(" ")
            for changed in (" " + text, text + " ", text.replace(" ", "  ", 1), text + "\n", text.upper(), text.replace(" ", "\n", 1)):
                self.check(changed)
            for at in range(len(words)):
                other = RIGHT[draw.below(len(RIGHT))].split(" ")
                moved = draw.below(len(words))
                swapped = list(words)
                swapped[at], swapped[moved] = words[moved], words[at]
                found.append(self.check(" ".join(words[:at] + words[at + 1:])))
                found.append(self.check(" ".join(words[:at + 1] + words[at:])))
                found.append(self.check(" ".join(swapped)))
                found.append(self.check(" ".join(words[:at] + [""] + words[at:])))
                found.append(self.check(" ".join(words[:at] + [other[draw.below(len(other))]] + words[at + 1:])))
                for word in ("-", "0", "00", "-0", "1/2", "2/4", "1000000", "p", "P", "by", "1,1,1", "1,1,0", "100", "-1"):
                    found.append(self.check(" ".join(words[:at] + [word] + words[at + 1:])))
        self.assertGreater(found.count(True), 100)
        self.assertGreater(found.count(False), 100)

    def test_values_of_all_kinds(self):
        for wrong in strange() + [0, 1, ["undo"], ("undo",), b"undo", Poly.x(), ["poly", "p"], "", " "]:
            with self.subTest(wrong):
                self.assert_bool(is_command(wrong), False)
                self.assert_bool(is_deed(wrong), False)

    def test_examples(self):
        found = [
            is_command("poly p 2,0,1 0,1,-3/2"), is_command("poly p 2,0,0"), is_deed("thread t by 0 1"),
            is_command("shear s - 0 0 1"), is_deed("undo"),
        ]
        self.assertEqual(found, [True, False, True, True, False])
