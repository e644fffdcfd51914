"""Promises 11, 100 and 101: courses written with names, and read."""

import random
import re
from itertools import permutations

from learnways.courses import Course
from learnways.errors import BadText, NoNames
from learnways.texts import course_of, text_of
from tests.certificates import Checked, strange_values
from tests.models import SHORT, books, courses, odd_values, random_ways, tidy_by_words

LETTERS = "abcdefghijklmnopqrstuvwxyz"
FIVE = ("wheel", "b", "steering", "z", "ab")


def some_names(rng, n):
    """Different names of 1 to 8 letters, many of them alike."""
    names = []
    while len(names) < n:
        if names and rng.random() < 0.4:
            name = rng.choice(names)[:rng.randint(1, 7)] + rng.choice(LETTERS)
        else:
            name = "".join(rng.choice(LETTERS) for _ in range(rng.randint(1, 8)))
        if name not in names:
            names.append(name)
    return tuple(names)


def text_by_words(ways, names):
    lines = []
    for name, entry in zip(names, ways):
        line = name + ":"
        for way in entry:
            line += " " + ("+".join(names[q] for q in way) if way else "-")
        lines.append(line)
    return "\n".join(lines)


def shuffled(rng, ways, names):
    """A text with the ways, and the names in them, in any order."""
    lines = []
    for name, entry in zip(names, ways):
        words = ["+".join(names[q] for q in rng.sample(way, len(way))) or "-" for way in entry]
        lines.append(" ".join([name + ":", *rng.sample(words, len(words))]))
    return "\n".join(lines)


def bad_line_by_words(text):
    """The number of the first bad line, or None."""
    lines = text.split("\n")
    begun = [re.fullmatch(r"([a-z]{1,8}):( .*)?", line, re.DOTALL) for line in lines]
    names = [match and match[1] for match in begun]
    for number, line in enumerate(lines, 1):
        name = names[number - 1]
        if number > 24 or not re.fullmatch(r"[a-z]{1,8}:( (-|[a-z]{1,8}(\+[a-z]{1,8})*))*", line):
            return number
        if name in names[:number - 1]:
            return number
        for word in line.split(" ")[1:]:
            parts = [] if word == "-" else word.split("+")
            if name in parts or len(set(parts)) < len(parts) or not set(parts) <= set(names):
                return number
    return None


class Texts(Checked):
    def check_read(self, text, names, ways):
        found = self.same_again(course_of, text)
        self.assertIs(type(found), tuple)
        self.assertEqual(found[0], names)
        self.assertIs(type(found[0]), tuple)
        self.assertIs(type(found[1]), Course)
        self.assertEqual(found[1].ways, tuple(tidy_by_words(entry) for entry in ways))

    def assert_bad(self, line, text):
        self.assertEqual(self.assert_raises_only(BadText, course_of, text).line, line, text)


class Written(Texts):
    def test_books_of_all_kinds(self):
        rng = random.Random(1)
        for course in [*courses(2, 200, 12), *courses(3, 20, 24, 13)]:
            names = some_names(rng, len(course))
            text = self.same_again(text_of, course, names)
            self.assertIs(type(text), str)
            self.assertEqual(text, text_by_words(course.ways, names))

    def test_examples(self):
        self.assertEqual(text_of(Course(SHORT), FIVE), "wheel: -\nb: wheel\nsteering: wheel\nz: b steering\nab: z")
        self.assertEqual(text_of(Course(((),)), ("a",)), "a:")
        self.assertEqual(text_of(Course((((),),)), ("abcdefgh",)), "abcdefgh: -")
        course = Course((((1, 2), (2, 3), (1, 3)), ((), (0,)), (), ((2,), (0, 1), (0, 2))))
        self.assertEqual(text_of(course, ("d", "c", "b", "a")), "d: c+b c+a b+a\nc: -\nb:\na: b d+c")

    def test_one_name_spoilt(self):
        course = Course(SHORT)
        for place in range(5):
            for name in (
                "", "abcdefghi", "A", "aB", "a1", "1", "a b", " a", "a ", "a\n", "\n", "a:", ":", "-", "a+b", "_", "a-b",
                None, True, 0, 10 ** 11, ("a",), ["a"], ("a", "c"), {}, {"a": "c"}, course, FIVE[place - 1],
            ):
                names = (*FIVE[:place], name, *FIVE[place + 1:])
                self.assert_raises_only(NoNames, text_of, course, names)
            names = (*FIVE[:place], "abcdefgh", *FIVE[place + 1:])
            self.assertEqual(text_of(course, names), text_by_words(SHORT, names))

    def test_refused(self):
        course = Course(SHORT)
        for value in [
            *odd_values(course), FIVE[:-1], (*FIVE, "more"), (*FIVE, FIVE[0]), list(FIVE), "abcde", dict.fromkeys(FIVE),
            (), (FIVE,), FIVE * 2, ("a",) * 5, tuple(range(5)),
        ]:
            self.assert_raises_only(NoNames, text_of, course, value)
        self.assert_raises_only(NoNames, text_of, Course(((),)), "a")
        self.assert_raises_only(NoNames, text_of, Course(((),)), ["a"])


class Read(Texts):
    def test_books_of_all_kinds(self):
        rng = random.Random(11)
        for ways in [*books(12, 200, 12), *books(13, 20, 24, 13)]:
            names = some_names(rng, len(ways))
            self.check_read(text_by_words(ways, names), names, ways)
            self.check_read(shuffled(rng, ways, names), names, ways)

    def test_more_and_longer_ways_than_callers_pass(self):
        names = some_names(random.Random(14), 8)
        for ways in (
            (tuple(permutations(range(1, 8), 2)),) + ((),) * 7, ((tuple(range(1, 8)), (7,), ()) * 4,) + ((),) * 7,
        ):
            self.check_read(text_by_words(ways, names), names, [[tuple(sorted(way)) for way in entry] for entry in ways])

    def test_examples(self):
        self.check_read("wheel: -\nb: wheel\nsteering: wheel\nz: steering b\nab: z", FIVE, SHORT)
        self.check_read("a:", ("a",), ((),))
        self.check_read("a: - - -", ("a",), (((),),))
        # Items are numbered by the lines, not by the letters.
        self.check_read("c: a+b b+a b\nb: - c\na: b+c", ("c", "b", "a"), (((1, 2), (1, 2), (1,)), ((), (0,)), ((0, 1),)))
        text = "\n".join(f"{name}: {'-' if name == 'a' else 'a'}" for name in LETTERS[:24])
        self.check_read(text, tuple(LETTERS[:24]), (((),),) + (((0,),),) * 23)

    def test_there_and_back(self):
        rng = random.Random(15)
        for one in courses(16, 60, 12):
            other = Course(random_ways(rng, len(one)))
            names = some_names(rng, len(one))
            for course in (one, one & other, one | other, (one | other) & other):
                text = text_of(course, names)
                again, found = course_of(text)
                self.assertEqual((again, found.ways), (names, course.ways))
                self.assertTrue(found == course)
                self.assertEqual(text_of(found, again), text)
                self.assertEqual(course_of(text)[1].ways, found.ways)


class BadTexts(Texts):
    def check_text(self, text):
        line = bad_line_by_words(text)
        if line is None:
            names, course = course_of(text)
            self.assertEqual(names, tuple(row.split(":")[0] for row in text.split("\n")))
            self.assertEqual(course.ways, course_of(text_of(course, names))[1].ways)
        else:
            self.assert_bad(line, text)
        return line is None

    def spoilt(self, rng, text, names):
        """The text with one thing changed."""
        lines = text.split("\n")
        place = rng.randrange(len(lines))
        kind = rng.randrange(7)
        if kind == 0:
            at = rng.randint(0, len(text))
            sign = rng.choice([*": +-\n", "", "  ", " -", "+-", "A", "1", "\t", "aaaaaaaa", rng.choice(names)])
            return text[:at] + sign + text[at + rng.randint(0, 1):]
        if kind == 1:
            words = lines[place].split(" ")
            at = rng.randrange(len(words))
            words[at] = rng.choice([*names, "", "-", words[at] + ":", words[at] + "+" + rng.choice(names), "unknown", "+"])
            lines[place] = " ".join(words)
        elif kind == 2:
            del lines[place]
        elif kind == 3:
            lines.insert(place, rng.choice(lines))
        elif kind == 4:
            lines.insert(place, rng.choice(["", " ", "new:", "new: -", "new: new", "new:" + rng.choice(names)]))
        elif kind == 5:
            lines[place] += " " + rng.choice(["-", "", " ", "+".join(rng.sample(names, min(2, len(names)))), "nobody"])
        else:
            rng.shuffle(lines)
        return "\n".join(lines)

    def test_texts_spoilt(self):
        rng = random.Random(21)
        found = {True: 0, False: 0}
        for ways in books(22, 250, 7):
            names = some_names(rng, len(ways))
            text = text_by_words(ways, names)
            for _ in range(10):
                other = text
                for _ in range(rng.choice((1, 1, 2, 3))):
                    other = self.spoilt(rng, other, names)
                found[self.check_text(other)] += 1
        self.assertGreater(min(found.values()), 300)

    def test_forms(self):
        good = "a: -\nb: a\nc: a+b b"
        self.check_read(good, ("a", "b", "c"), (((),), ((0,),), ((0, 1), (1,))))
        for line, text in (
            (1, ""), (1, "\n"), (1, "a"), (1, ":"), (1, " "), (1, "a :"), (1, " a:"), (1, "a: "), (1, "a:  -"), (1, "a:-"),
            (1, "a: -+b\nb:"), (1, "a: b+\nb:"), (1, "a: +b\nb:"), (1, "a: b++c\nb:\nc:"), (1, "a: --"), (1, "a: - b"),
            (1, "A:"), (1, "a1:"), (1, "a: a"), (1, "a: b+a\nb:"), (1, "a: b+b\nb:"), (1, "a: b"), (1, "a::"), (1, "a: b:"),
            (1, "abcdefghi:"), (1, "a: b,c\nb:\nc:"), (1, "a:\tb\nb:"), (1, "-: -"), (1, "a: b +c\nb:\nc:"),
            (2, "a: -\n"), (2, "a: -\na: -"), (2, "a: -\n\nb: a"), (2, "a: -\n b: a"), (2, "a: -\nb: a "),
            (2, "a: -\nb: A"), (2, "a: -\nb: c\nc : a"), (3, "a: -\nb: a\na: b"), (3, "a: -\nb: a\nc:a"), (4, good + "\n"),
            (2, "a: -\nb: a  -\nc: b"), (3, "a: -\nb: a\n-: a"), (2, "a: -\nb: a-\nc: b"), (1, "a: -\r\nb: a"),
        ):
            self.assert_bad(line, text)
            self.assertEqual(bad_line_by_words(text), line, text)

    def test_lines_that_begin_with_an_item_though_they_are_bad(self):
        self.assert_bad(2, "a: b\nb: a  a")
        self.assert_bad(2, "a: b\nb: b")
        self.assert_bad(2, "a: b\nb: ???")
        self.assert_bad(3, "a: c\nb: -\nc: nobody")
        # These lines do not begin with a name and a colon as their first word.
        for line in ("b", "b:a", "b-: a", "bbbbbbbbb: a", "b :", " b:", "B: a", ":b", "b::"):
            self.assert_bad(1, "a: b\n" + line)

    def test_first_bad_line_counts(self):
        self.assert_bad(1, "a: x\nb: b\n\n")
        self.assert_bad(2, "a: b\nb: b\na: -")
        self.assert_bad(3, "a: b\nb: -\na: x\nc: x")

    def test_numbers_of_lines(self):
        lines = [f"{letter}: -" for letter in LETTERS]
        self.assertEqual(len(course_of("\n".join(lines[:24]))[1]), 24)
        self.assert_bad(25, "\n".join(lines[:25]))
        self.assert_bad(25, "\n".join(lines))
        self.assert_bad(25, "\n".join(lines[:24]) + "\n")
        self.assert_bad(3, "\n".join([*lines[:2], "c: c", *lines[3:26]]))
        # The 25th line is bad, and so are later ones, but they begin with their items.
        self.assert_bad(25, "\n".join(["a: y", "b: z", *lines[2:26]]))
        self.assert_bad(2, "\n".join(["a: y", "b: z", *lines[2:25]]))

    def test_other_values(self):
        course = Course(SHORT)
        for value in [*odd_values(course), *strange_values(course), ("a: -",), ["a: -"], {"a: -": 1}, b"a: -", b""]:
            if not isinstance(value, str):
                self.assert_bad(0, value)
        for value in odd_values(course):
            if isinstance(value, str):
                self.assert_bad(1, value)


if __name__ == "__main__":
    import unittest
    unittest.main()
