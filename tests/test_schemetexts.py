"""Points 14 and 15: the texts of schemes, written and read."""

import itertools
import random
import re
import unittest

from partlabels.errors import BadLine
from partlabels.labels import read_label
from partlabels.schemes import Scheme
from partlabels.schemetexts import read_scheme, scheme_text
from samples import Case, all_told, begins_of, book, follows_of, made

NAME = "[a-z]{1,8}"
START = "(?:[0-9]|[1-9][0-9])"
DEED = f"(?:add {NAME} [1-9][0-9]?|set {NAME} {START})"
LABEL = r"(?:[A-Za-z]+ )*\{[a-z]{1,8}(?::a)?\}(?:[.:/]\{[a-z]{1,8}(?::a)?\}){0,3}"
BOOK = """counters chapter 0, figure 0
kind chapter: add chapter 1, set figure 0
label Chapter {chapter}
kind figure: add figure 1
label Figure {chapter}.{figure}
begins chapter
after chapter: chapter figure
after figure: chapter figure"""
# Signs, words and pieces of lines that changed texts get.
PIECES = [" ", "  ", "\n", ",", ", ", ":", "0", "1", "9", "00", "a", "b", "z", "A", "{", "}", "{a}", "add", "set",
          "kind ", "label ", "begins", "after ", "counters ", ".", "/", " a", " b", " k", "-", "_"]


def text_of(plain):
    """The text of a scheme, written apart from the program."""
    kinds = sorted(plain["kinds"])
    text = "counters " + ", ".join(f"{name} {plain['starts'][name]}" for name in sorted(plain["starts"]))
    for kind in kinds:
        deeds, label = plain["kinds"][kind]
        text += f"\nkind {kind}:" + ",".join(f" {word} {name} {number}" for word, name, number in deeds)
        text += "" if label is None else f"\nlabel {label.text()}"
    text += "\nbegins" + "".join(" " + kind for kind in begins_of(plain))
    for kind in kinds:
        text += f"\nafter {kind}:" + "".join(" " + other for other in follows_of(plain, kind))
    return text


def rises(names):
    return list(names) == sorted(set(names))


def may_be_next(line, lines):
    """Whether a text of a scheme can go on with a line behind lines with which one can begin."""
    if not lines:
        found = re.fullmatch(f"counters {NAME} {START}(?:, {NAME} {START}){{0,3}}", line)
        return found is not None and rises(re.findall(f"({NAME}) [0-9]", line))
    counters = re.findall("([a-z]+) [0-9]", lines[0])
    kinds = [row.split(":")[0][5:] for row in lines if row.startswith("kind ")]
    if any(re.match("begins", row) for row in lines):
        done = sum(row.startswith("after ") for row in lines)
        if done == len(kinds):
            return False
        found = re.fullmatch(f"after {kinds[done]}:((?: {NAME})*)", line)
        return found is not None and rises(found[1].split()) and set(found[1].split()) <= set(kinds)
    found = re.fullmatch(f"kind ({NAME}):((?: {DEED}(?:, {DEED}){{0,5}})?)", line)
    if found:
        names = re.findall("[dt] ([a-z]+) [0-9]", line)
        return rises([*kinds, found[1]]) and len(kinds) < 6 and set(names) <= set(counters)
    found = re.fullmatch(f"label ({LABEL})", line)
    if found and len(line.split("{")[0]) - len("label ") <= 30:
        names = re.findall(r"\{([a-z]+)", line)
        return lines[-1].startswith("kind ") and len(set(names)) == len(names) and set(names) <= set(counters)
    found = re.fullmatch(f"begins((?: {NAME})*)", line)
    return found is not None and kinds != [] and rises(found[1].split()) and set(found[1].split()) <= set(kinds)


def bad_line(text):
    """The number of the line that is due in BadLine, or None for the text of a scheme."""
    lines = text.split("\n")
    for index, line in enumerate(lines):
        if not may_be_next(line, lines[:index]):
            return index + 1
    kinds = sum(row.startswith("kind ") for row in lines)
    whole = sum(row.startswith("after ") for row in lines) == kinds > 0
    return None if whole else len(lines) + 1


def changed_texts(rng, text, many):
    """Texts that differ from a text at one or two places."""
    for _ in range(many):
        found = text
        for _ in range(rng.choice([1, 1, 2])):
            place = rng.randint(0, len(found))
            choice = rng.randrange(6)
            lines = found.split("\n")
            row = rng.randrange(len(lines))
            if choice == 0:
                found = found[:place] + rng.choice(PIECES) + found[place:]
            elif choice == 1:
                found = found[:place] + found[place + rng.randint(1, 3):]
            elif choice == 2:
                found = found[:place] + rng.choice(PIECES) + found[place + 1:]
            elif choice == 3:
                found = "\n".join(lines[:row] + lines[row + 1:])
            elif choice == 4:
                found = "\n".join(lines[:row] + [rng.choice(lines)] + lines[row:])
            else:
                found = "\n".join(lines[:row])
        yield found


class Writing(Case):
    def test_texts(self):
        for plain in all_told():
            self.assertEqual(scheme_text(made(plain)), text_of(plain))
            self.assertEqual(scheme_text(scheme=made(plain)), text_of(plain))
        self.assertEqual(scheme_text(book()), BOOK)

    def test_the_least_scheme(self):
        scheme = Scheme({"a": 0}, {"k": ([], None)}, follows={}, begins=[])
        self.assertEqual(scheme_text(scheme), "counters a 0\nkind k:\nbegins\nafter k:")

    def test_a_great_scheme(self):
        counters, kinds = ["d", "b", "c", "a"], ["p", "f", "k", "m", "o", "n"]
        deeds = [("set", "b", 99), ("add", "a", 99), ("set", "d", 0), ("add", "c", 10), ("add", "a", 1),
                 ("set", "a", 7)]
        label = read_label("A b Cd {d:a}/{a}:{c}.{b:a}")
        scheme = Scheme({name: 90 + at for at, name in enumerate(counters)}, {kind: (deeds, label) for kind in kinds})
        told = " set b 99, add a 99, set d 0, add c 10, add a 1, set a 7\nlabel A b Cd {d:a}/{a}:{c}.{b:a}"
        lines = ["counters a 93, b 91, c 92, d 90", *[f"kind {kind}:{told}" for kind in sorted(kinds)],
                 "begins f k m n o p", *[f"after {kind}: f k m n o p" for kind in sorted(kinds)]]
        self.assertEqual(scheme_text(scheme), "\n".join(lines))
        self.assertEqual(read_scheme("\n".join(lines)), scheme)


class Reading(Case):
    def test_texts(self):
        for plain in all_told(192):
            scheme = made(plain)
            self.assertEqual(read_scheme(text_of(plain)), scheme)
            self.assertEqual(read_scheme(scheme_text(scheme)), scheme)
            self.assertIsNone(bad_line(text_of(plain)))
            self.assertIsInstance(read_scheme(text=text_of(plain)), Scheme)

    def test_changed_texts(self):
        seen = {}
        for seed, plain in enumerate(all_told(192)):
            text = text_of(plain)
            for changed in changed_texts(random.Random(seed), text, 60):
                line = bad_line(changed)
                with self.subTest(text=changed):
                    if line is None:
                        self.assertEqual(scheme_text(read_scheme(changed)), changed)
                    else:
                        self.check_error(BadLine, [line], read_scheme, changed)
                seen[line] = seen.get(line, 0) + 1
        # The changes must hit texts of schemes, and all lines.
        self.assertGreater(min(seen[line] for line in (None, *range(1, 12))), 20)

    def test_first_lines(self):
        for line in ("", " ", "counters", "counters ", "counters a", "counters a ", "counters a 00", "counters a 01",
                     "counters a 100", "counters a -1", "counters a b", "counters a +1", "counters A 0",
                     "counters a1 0", "counters abcdefghi 0", "counters  a 0", "counters a  0", "counters a 0 ",
                     " counters a 0",
                     "counters a 0,", "counters a 0, ", "counters a 0,b 0", "counters a 0,  b 0", "counters a 0 , b 0",
                     "counters b 0, a 0", "counters a 0, a 0", "counters a 0, a 1", "counters , a 0",
                     "counters a 0 b 0", "counters a 0, b 0, c 0, d 0, e 0", "counters a 0, b 0, c 0, e 0, d 0",
                     "counters: a 0",
                     "counter a 0", "Counters a 0", "countersa 0", "kind k:", "begins",
                     "counters a 99999999999999999999999999999",
                     "counters a 0.", "counters a a 0", "counters 0"):
            rest = "\nkind k:\nbegins\nafter k:"
            with self.subTest(line=line):
                self.check_error(BadLine, [1], read_scheme, line)
                self.check_error(BadLine, [1], read_scheme, line + rest)
                self.check_error(BadLine, [1], read_scheme, line + "\nmore\n")

    def test_lines_of_kinds(self):
        for line in ("", "kind", "kind ", "kind k", "kind k: ", "kind  k:", "kind k :", " kind k:", "kind K:",
                     "kind k1:", "kind :", "kind abcdefghi:", "kind k: add", "kind k: add a", "kind k: add a 0",
                     "kind k: add a 100", "kind k: add a 01", "kind k: set a 00", "kind k: set a 100",
                     "kind k: add b 1", "kind k: add A 1",
                     "kind k: sub a 1", "kind k: add a 1,", "kind k: add a 1, ", "kind k: add a 1,set a 0",
                     "kind k: add a 1 , set a 0", "kind k:  add a 1", "kind k: add  a 1", "kind k: add a  1",
                     "kind k: add a 1 ", "kind k:add a 1", "kind k, add a 1", "kind k: add a 1: set a 0",
                     "kind k: add a 1, set a 0, sub a 1", "kind k: a 1", "kind k: add a 1 set a 0", "kind k: add a -1",
                     "kind k:" + ",".join([" add a 1"] * 7), "label {a}", "begins", "after k:", "counters a 0",
                     "kind k:: add a 1", "kind k: , add a 1", "kinds k:", "Kind k:"):
            with self.subTest(line=line):
                self.check_error(BadLine, [2], read_scheme, f"counters a 0\n{line}")
                self.check_error(BadLine, [2], read_scheme, f"counters a 0\n{line}\nbegins\nafter k:")
        self.check_error(BadLine, [3], read_scheme, "counters a 0\nkind k:\nkind k:\nbegins\nafter k:")
        self.check_error(BadLine, [3], read_scheme, "counters a 0\nkind k:\nkind j: add a 1\nbegins\nafter k:")
        kinds = "".join(f"\nkind {kind}: add a 1" for kind in "abcdef")
        self.check_error(BadLine, [8], read_scheme, f"counters a 0{kinds}\nkind g:\nbegins")
        self.check_error(BadLine, [8], read_scheme, f"counters a 0{kinds}")

    def test_lines_of_labels(self):
        for label in ("", " ", "{b}", "{a", "a}", "{a}{a}", "{a}.{a}", "{a}.{b}", "{a}-{c}", "{a} ", "{a}.", " {a}",
                      "A{a}", "A  {a}", "A 1 {a}", "{A}", "{a:b}", "{a:}", "{a:aa}", "Figure", "{}", "A {a}. {c}",
                      "abcdefghij KLMNOPQRST uvwxyzAB {a}", "{a}.{c}.{a}", "{b:a}"):
            with self.subTest(label=label):
                self.check_error(BadLine, [3], read_scheme, f"counters a 0, c 0\nkind k:\nlabel {label}")
                self.check_error(BadLine, [3], read_scheme,
                                 f"counters a 0, c 0\nkind k:\nlabel {label}\nbegins\nafter k:")
        for line in ("label", "labels {a}", "label  {a}", " label {a}", "Label {a}", "label:{a}"):
            self.check_error(BadLine, [3], read_scheme, f"counters a 0\nkind k:\n{line}\nbegins\nafter k:")
        self.check_error(BadLine, [4], read_scheme, "counters a 0\nkind k:\nlabel {a}\nlabel {a}\nbegins\nafter k:")
        self.check_error(BadLine, [4], read_scheme, "counters a 0\nkind k:\nbegins\nlabel {a}\nafter k:")

    def test_lines_of_orders(self):
        head = "counters a 0\nkind k:\nkind m:\n"
        for names in (" ", " k ", "  k", " k  m", " m k", " k k", " q", " k q", " K", " a", " k,m", " k, m", "k", ":",
                      ": k", " k m n"):
            with self.subTest(names=names):
                self.check_error(BadLine, [4], read_scheme, f"{head}begins{names}")
                self.check_error(BadLine, [4], read_scheme, f"{head}begins{names}\nafter k:\nafter m:")
                if names not in (":", ": k"):
                    self.check_error(BadLine, [5], read_scheme, f"{head}begins k m\nafter k:{names}\nafter m:")
                    self.check_error(BadLine, [6], read_scheme, f"{head}begins\nafter k: m\nafter m:{names}")
        for line in ("after", "after ", "after k", "after k :", "after m:", "after q:", "after  k:", " after k:",
                     "begins", "kind n:", "label {a}", "", "After k:", "after k::", "after a:"):
            self.check_error(BadLine, [5], read_scheme, f"{head}begins\n{line}\nafter m:")
        self.check_error(BadLine, [6], read_scheme, f"{head}begins\nafter k:\nafter k:")
        self.check_error(BadLine, [7], read_scheme, f"{head}begins\nafter k:\nafter m:\nafter n:")

    def test_missing_lines(self):
        for plain in all_told():
            lines = text_of(plain).split("\n")
            for many in range(1, len(lines)):
                self.check_error(BadLine, [many + 1], read_scheme, "\n".join(lines[:many]))
        self.check_error(BadLine, [1], read_scheme, "")

    def test_lines_too_many(self):
        for plain in all_told():
            text = text_of(plain)
            many = len(text.split("\n"))
            for more in ("\n", "\n\n", "\n ", "\nbegins", "\n" + text.split("\n")[-1], "\n" + text):
                self.check_error(BadLine, [many + 1], read_scheme, text + more)
            self.check_error(BadLine, [many], read_scheme, text + " ")
            self.check_error(BadLine, [1], read_scheme, "\n" + text)

    def test_an_empty_line_behind_a_part_of_a_text(self):
        for plain in all_told(24):
            lines = text_of(plain).split("\n")
            for many in range(1, len(lines)):
                self.check_error(BadLine, [many + 1], read_scheme, "\n".join(lines[:many]) + "\n")

    def test_each_sign(self):
        # Each sign put in or exchanged, at each place of one text.
        for place, sign in itertools.product(range(len(BOOK) + 1), "\n :,a0{"):
            for end in (place, place + 1):
                changed = BOOK[:place] + sign + BOOK[end:]
                line = bad_line(changed)
                if line is None:
                    self.assertEqual(scheme_text(read_scheme(changed)), changed)
                else:
                    self.check_error(BadLine, [line], read_scheme, changed)

    def test_long_lines(self):
        for piece in ("0", "a", " ", "{", "a 0, ", " add a 1,"):
            self.check_error(BadLine, [1], read_scheme, ("counters a " + piece * 4000)[:4000])
            self.check_error(BadLine, [2], read_scheme, ("counters a 0\nkind k: add a " + piece * 4000)[:4000])
        self.check_error(BadLine, [1], read_scheme, "\n" * 4000)


if __name__ == "__main__":
    unittest.main()
