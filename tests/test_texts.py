import re

from longrounds.errors import NoText
from longrounds.programs import program
from longrounds.texts import read, show
from samples import ADD, COUNTS, DOUBLE, MOST, PRIMES, RefusalTest, Spread, again, cases

NAMES = (
    ("a",), ("z",), ("boxes",), ("abcdefgh",), ("a", "b"), ("do", "prime"), ("sets", "agains"), ("b", "a"),
    ("aa", "a"), ("a", "b", "c"), ("stuvwxyz", "ijklmnop", "qr"), ("c", "b", "a"),
)
HEAD = "prime 7\nboxes a\n"
GOOD = HEAD + "do set a 1 1 again 7 [ set a 2 5 again 0 [ ] ]"
TWO = "prime 101\nboxes left do\ndo set do 1 100 0 again 12 [ set left 2 1 5 ]"
THREE = "prime 9973\nboxes a b c\ndo again 1000000000000000000000000000000 [ set b 0 1 9972 3 ] set c 0 0 0 0"


def as_rows(P, names, items):
    """As the document tells it: three rows, the words parted by one blank."""
    return f"prime {P}\nboxes {' '.join(names)}\ndo{items_by_hand(names, items)}"


def items_by_hand(names, items):
    told = ""
    for kind, number, rest in items:
        if kind == "set":
            told += f" set {names[number]}" + "".join(f" {n}" for n in rest)
        else:
            told += f" again {number} [{items_by_hand(names, rest)} ]"
    return told


def names_for(many):
    return [names for names in NAMES if len(names) == many]


class TextsTest(RefusalTest):
    def is_text(self, P, names, items, text):
        self.assertEqual(show(P, names, items), text)
        self.assertEqual(show(P, list(names), items), text)
        self.is_told(read(text), P, names, items)

    def is_told(self, told, P, names, items):
        self.assertEqual(told, (P, names, items))
        self.assertIs(type(told), tuple)
        self.assertIs(type(told[0]), int)
        self.assertIs(type(told[1]), tuple)
        for name in told[1]:
            self.assertIs(type(name), str)
        self.all_of_kind(told[2])

    def all_of_kind(self, items):
        self.assertIs(type(items), tuple)
        for item in items:
            self.assertIs(type(item), tuple)
            self.assertIs(type(item[0]), str)
            self.assertIs(type(item[1]), int)
            if item[0] == "again":
                self.all_of_kind(item[2])
            else:
                self.assertIs(type(item[2]), tuple)
                self.assertEqual({type(n) for n in item[2]}, {int})

    def no_text(self, *texts):
        for text in texts:
            with self.subTest(text=text[:200]):
                self.refused(NoText, read, text)

    def no_items(self, *rows):
        """Refused as the items of a program with the one box a on the wheel of 7."""
        self.no_text(*(HEAD + "do " + row for row in rows))


class ShownAndReadTest(TextsTest):
    def test_no_items(self):
        self.is_text(3, ("a",), (), "prime 3\nboxes a\ndo")
        self.is_text(9973, ("abcdefgh", "b"), (), "prime 9973\nboxes abcdefgh b\ndo")
        self.is_text(7, ("x", "y", "z"), (), "prime 7\nboxes x y z\ndo")

    def test_sets(self):
        self.is_text(7, ("a",), (ADD,), "prime 7\nboxes a\ndo set a 1 1")
        self.is_text(7, ("a",), (ADD, DOUBLE), "prime 7\nboxes a\ndo set a 1 1 set a 2 0")
        self.is_text(7, ("b", "a"), (("set", 1, (0, 6, 5)),), "prime 7\nboxes b a\ndo set a 0 6 5")
        items = (("set", 2, (9972, 0, 10, 100)),)
        self.is_text(9973, ("x", "yy", "zzz"), items, "prime 9973\nboxes x yy zzz\ndo set zzz 9972 0 10 100")

    def test_agains(self):
        self.is_text(7, ("a",), (again(7),), HEAD + "do again 7 [ ]")
        self.is_text(7, ("a",), (again(0),), HEAD + "do again 0 [ ]")
        self.is_text(7, ("a",), (again(0, ADD), again(1)), HEAD + "do again 0 [ set a 1 1 ] again 1 [ ]")
        self.is_text(7, ("a",), (again(MOST, ADD),), HEAD + "do again 1000000000000000000000000000000 [ set a 1 1 ]")
        deep = (again(2, again(3, again(MOST - 1), ADD), DOUBLE),)
        nines = "9" * 30
        self.is_text(7, ("a",), deep, HEAD + f"do again 2 [ again 3 [ again {nines} [ ] set a 1 1 ] set a 2 0 ]")
        self.is_text(7, ("a",), (again(1, again(2, again(3))),), HEAD + "do again 1 [ again 2 [ again 3 [ ] ] ]")

    def test_the_documents_row(self):
        items = (("set", 0, (1, 1, 0)), again(7, ("set", 1, (2, 1, 5))))
        self.is_text(7, ("a", "b"), items, "prime 7\nboxes a b\ndo set a 1 1 0 again 7 [ set b 2 1 5 ]")

    def test_names_that_are_words_of_the_rows(self):
        items = (("set", 1, (1, 1, 0, 2)), again(2, ("set", 0, (1, 0, 1, 0)), ("set", 2, (0, 0, 0, 1))))
        text = "prime 7\nboxes do boxes prime\ndo set boxes 1 1 0 2 again 2 [ set do 1 0 1 0 set prime 0 0 0 1 ]"
        self.is_text(7, ("do", "boxes", "prime"), items, text)

    def test_every_prime(self):
        for P in range(10000):
            text = f"prime {P}\nboxes a\ndo"
            if P > 2 and all(P % d for d in range(2, min(P, 100))):
                self.is_text(P, ("a",), (), text)
            else:
                self.refused(NoText, read, text)

    def test_names_of_one_to_eight_letters(self):
        letters = "abcdefghijklmnopqrstuvwxyz"
        for k in range(26):
            for length in range(1, 9):
                name = (letters[k:] + letters)[:length]
                self.is_text(7, (name,), (ADD,), f"prime 7\nboxes {name}\ndo set {name} 1 1")
                self.is_text(7, ("same", name), (), f"prime 7\nboxes same {name}\ndo")
        for name in ("se", "sett", "asset", "agai", "agains", "do", "prime", "boxes", "eight"):
            self.is_text(7, (name,), (ADD,), f"prime 7\nboxes {name}\ndo set {name} 1 1")

    def test_programs_of_all_kinds(self):
        for spread, P, many in cases(130):
            for size in (1, 2, 3, 5, 10, 20, 30):
                for names in names_for(many):
                    items = spread.items(P, many, size, 3, COUNTS)
                    self.is_text(P, names, items, as_rows(P, names, items))

    def test_thirty_items(self):
        deep = again(1, again(1, again(1)))
        for items in ((ADD,) * 30, (again(2, *(ADD,) * 29),), (again(MOST),) * 30, (deep,) * 10):
            self.is_text(7, ("a",), items, as_rows(7, ("a",), items))

    def test_what_is_handed_in_stays(self):
        names, items = ["a", "b"], (("set", 1, (1, 1, 0)), again(3, ("set", 0, (2, 0, 0))))
        text = show(7, names, items)
        self.assertEqual(show(7, names, items), text)
        self.assertEqual(names, ["a", "b"])
        self.assertEqual(items, (("set", 1, (1, 1, 0)), ("again", 3, (("set", 0, (2, 0, 0)),))))
        names.append("c")
        self.assertEqual(read(text)[1], ("a", "b"))
        self.assertEqual(read(text), read(text))


class NoTextTest(TextsTest):
    def test_numbers_written_otherwise(self):
        for number in ("01", "00", "+1", "-1", "-0", "1.0", "1_0", "0x1", "1e1", "one", "", "a", "[", "1a", "a1", "#"):
            self.no_items(f"set a {number} 1", f"set a 1 {number}", f"again {number} [ ]")
            self.no_items(f"again 2 [ set a 1 {number} ]", f"set a 1 1 again {number} [ set a 1 1 ]")
        for number in ("07", "+7", "-7", "7.0", "007", "seven", "", "7a", "7_", "0x7", "-5"):
            self.no_text(f"prime {number}\nboxes a\ndo")

    def test_each_sign_in_the_place_of_a_number_or_a_name(self):
        for sign in [chr(code) for code in range(32, 127)]:
            for word in (sign, sign + "1", "1" + sign):
                if not word.isdigit():
                    self.no_items(f"set a {word} 1", f"set a 1 {word}", f"again {word} [ ]")
                    self.no_text(f"prime {word}\nboxes a\ndo")
            for word in (sign, sign + "a", "a" + sign):
                if not word.islower() or not word.isalpha():
                    self.no_text(f"prime 7\nboxes {word}\ndo", f"prime 7\nboxes b {word} c\ndo")

    def test_numbers_beyond_the_wheel(self):
        for number in (7, 8, 9, 10, 14, 70, 700, 10**29, 10**30, 10**31, 10**59):
            self.no_items(f"set a {number} 1", f"set a 1 {number}", f"again 2 [ set a 1 {number} ]")
        self.assertEqual(read(HEAD + "do set a 6 6")[2], (("set", 0, (6, 6)),))
        for P in PRIMES:
            self.assertEqual(read(f"prime {P}\nboxes a b\ndo set b 0 {P - 1} 0")[2], (("set", 1, (0, P - 1, 0)),))
            for n in (P, P + 1, 2 * P):
                self.no_text(f"prime {P}\nboxes a b\ndo set b 0 {n} 0", f"prime {P}\nboxes a b\ndo set a 0 0 {n}")

    def test_too_few_or_too_many_numbers(self):
        for many in (1, 2, 3):
            head = "prime 7\nboxes " + " ".join("abc"[:many]) + "\ndo "
            for count in range(7):
                row = "set a" + " 1" * count
                rows = (row, row + " set a" + " 1" * (many + 1), f"again 2 [ {row} ]", f"again 2 [ ] {row}")
                for text in [head + each for each in rows]:
                    if count == many + 1:
                        self.assertEqual(show(*read(text)), text)
                    else:
                        self.no_text(text)

    def test_names_that_are_none(self):
        for name in ("b", "aa", "A", "set", "again", "do", "1", "[", "]", "", "a,", "-"):
            self.no_items(f"set {name} 1 1", f"again 2 [ set {name} 1 1 ]", f"set a 1 1 set {name} 1 1")
        self.no_text("prime 7\nboxes a b\ndo set c 1 1 1", "prime 7\nboxes ab\ndo set a 1 1")

    def test_words_that_begin_no_item(self):
        self.no_items("a", "a 1 1", "1 1", "set", "again", "[ ]", "[ set a 1 1 ]", "[", "do", "do set a 1 1")
        self.no_items("sets a 1 1", "Set a 1 1", "SET a 1 1", "Again 2 [ ]", "agains 2 [ ]", "set a 1 1;", "set,a 1 1")
        self.no_items("again [ ]", "again a [ ]", "again 2 2 [ ]", "again 2 ( )", "again 2 { }", "again 2 [] set a 1 1")

    def test_brackets(self):
        self.no_items(
            "again 2", "again 2 [", "again 2 ]", "again 2 [ set a 1 1", "again 2 set a 1 1 ]", "again 2 set a 1 1",
            "again 2 [ ] ]", "again 2 [ ] [ ]", "again 2 [ [ ] ]", "again 2 [ [ set a 1 1 ] ]", "]", "set a 1 1 ]",
            "again 2 [ again 3 [ ]", "again 2 [ again 3 ] ]", "again 2 [ again 3 [ ] ] ]", "again 2 ] [", "] again 2 [",
            "again 2 []", "again 2[ ]", "again 2 [set a 1 1 ]", "again 2 [ set a 1 1]", "again 2 [ ] ] set a 1 1",
            "set a 1 ]", "again 2 [ set a 1 ]", "again 2 [ set a ] 1 1", "set a [ 1 1 ]", "again [ 2 ]",
        )

    def test_more_rounds_than_the_most(self):
        for n in (MOST + 1, MOST + 7, 2 * MOST, 10 * MOST - 1, 10 * MOST, 10**59, 10**60 - 1, 10**300):
            self.no_items(f"again {n} [ ]", f"again {n} [ set a 1 1 ]")
            self.no_items(f"again 0 [ again {n} [ ] ]", f"again 2 [ ] again {n} [ ]")

    def test_agains_too_deep(self):
        for deep in (4, 5, 10, 29, 30, 31, 100, 300):
            row = "again 1 [ " * deep + "] " * (deep - 1) + "]"
            self.no_items(row, "set a 1 1 " + row, row.replace("1", "0"), row.replace("[ ]", "[ set a 1 1 ]"))

    def test_thirty_one_items(self):
        one = "set a 1 1 "
        self.no_items((one * 31)[:-1], ("again 0 [ ] " * 31)[:-1], "again 2 [ " + one * 30 + "]", (one * 100)[:-1])
        self.no_items("again 0 [ " + one * 15 + "] again 1 [ " + one * 14 + "]")

    def test_numbers_that_are_no_prime(self):
        for P in (0, 1, 2, 4, 6, 8, 9, 15, 25, 49, 561, 9409, 9999, 10000, 10007, 65537, 10**30, 10**30 + 57, 10**59):
            self.no_text(f"prime {P}\nboxes a\ndo", f"prime {P}\nboxes a\ndo set a 1 1")
        self.no_text("prime\nboxes a\ndo", "prime 7 7\nboxes a\ndo", "prime 7 a\nboxes a\ndo", "7\nboxes a\ndo")

    def test_names_that_may_not_be(self):
        for names in (
            "a a", "a b a", "a b b", "a a a", "a b c d", "a b c d e", "A", "aB", "a B", "abcdefghi", "a abcdefghi",
            "set", "again", "a set", "a b again", "set again", "a1", "1", "a-b", "a_b", "a,b", "[", "a ]", "*", "",
        ):
            self.no_text(f"prime 7\nboxes {names}\ndo")
        self.no_text("prime 7\nboxes\ndo", "prime 7\nboxes set\ndo set set 1 1")
        self.no_text("prime 7\nboxes again\ndo set again 1 1")
        self.no_text("prime 7\nboxes a a\ndo set a 1 1 1", "prime 7\nboxes a b c d\ndo set a 1 1 1 1 1")

    def test_a_word_short(self):
        for text in (GOOD, TWO, THREE):
            places = [found.span() for found in re.finditer(r"[^ \n]+", text)]
            for start, end in places:
                self.no_text_unless_shown(text[:max(start - 1, 0)] + text[end:])
                self.no_text_unless_shown(text[:start] + text[end:].removeprefix(" "))

    def test_blanks_and_line_ends_more(self):
        for text in (GOOD, TWO, THREE, HEAD + "do"):
            self.no_text(text + " ", text + "\n", " " + text, "\n" + text, text + "\n\n", text + " \n", text + "\n ")
            for place in range(len(text)):
                if text[place] in " \n":
                    for more in (" ", "\n", "  ", "\n\n"):
                        self.no_text(text[:place] + more + text[place:], text[:place + 1] + more + text[place + 1:])

    def test_blanks_and_line_ends_one_for_the_other(self):
        for text in (GOOD, TWO, THREE, HEAD + "do"):
            for place in range(len(text)):
                if text[place] in " \n":
                    for sign in ("", " ", "\n", "\t", "\r", "\r\n", ",", ";", "-"):
                        if sign != text[place]:
                            self.no_text(text[:place] + sign + text[place + 1:])

    def test_rows_left_out_told_twice_or_in_another_order(self):
        for text in (GOOD, TWO, THREE, HEAD + "do"):
            one, two, three = text.split("\n")
            for rows in (
                (), (one,), (two,), (three,), (one, two), (one, three), (two, three), (one, one, two, three),
                (one, two, two, three), (one, two, three, three), (one, two, three, one, two, three), (two, one, three),
                (one, three, two), (three, two, one), (one, "", two, three), (one, two, ""), ("", two, three),
                (one, one, three), (one, two, two), (three, three, three), (one, "", three),
            ):
                self.no_text("\n".join(rows))

    def test_words_with_a_great_letter(self):
        for text in (GOOD, TWO, THREE, HEAD + "do"):
            self.no_text(text.upper(), text.title(), text.capitalize())
            for place in range(len(text)):
                if text[place].islower():
                    self.no_text(text[:place] + text[place].upper() + text[place + 1:])

    def test_short_texts(self):
        self.no_text("", " ", "\n", "\n\n", "\n\n\n", "do", "prime", "prime 7", "a", "prime\nboxes\ndo")

    def test_long_texts(self):
        for part in ("a", " ", "\n", "7", "0", "[ ", "] ", "again 1 [ ", "set a 1 1 ", "again 1 [ ] ", "set ", "~"):
            long = part * 4000
            for ahead in ("", "prime ", "prime 7\nboxes ", HEAD):
                self.no_text((ahead + long)[:4000])
            for ahead in ("do", "do ", "do set a 1 ", "do again "):
                self.no_text((HEAD + ahead + long)[:4000])
        deep = "again 1 [ " * 330 + "] " * 329 + "]"
        self.no_text(HEAD + "do " + deep, HEAD + "do " + deep.replace("[ ]", "[ set a 1 1 ]"))
        self.no_text(GOOD + " " * 3900, GOOD + "\n" * 3900, " " * 3900 + GOOD, "\n" * 3900 + GOOD)
        zeros = "0" * 3900
        self.no_text(f"prime {zeros}7\nboxes a\ndo", f"{HEAD}do set a 1 {zeros}1", f"{HEAD}do again {zeros}7 [ ]")

    def no_text_unless_shown(self, text):
        """What is read is a program of which this is the text; where none is read, the refusal is NoText."""
        try:
            P, names, items = read(text)
        except NoText:
            self.no_text(text)
            return 0
        self.assertEqual(as_rows(P, names, items), text)
        self.assertIn(len(names), (1, 2, 3))
        self.assertEqual(program(P, len(names), items), items)
        self.assertEqual(len(set(names)), len(names))
        for name in names:
            self.assertRegex(name, r"^[a-z]{1,8}$")
            self.assertNotIn(name, ("set", "again"))
        return 1

    def test_each_text_by_one_sign_from_a_programs(self):
        signs = " \n0179a bz[]A-+.~"
        taken = 0
        for text in (GOOD, TWO, THREE, HEAD + "do", "prime 3\nboxes a b c\ndo again 10 [ set c 0 1 2 0 ]"):
            for place in range(len(text) + 1):
                taken += self.no_text_unless_shown(text[:place] + text[place + 1:])
                for sign in signs:
                    taken += self.no_text_unless_shown(text[:place] + sign + text[place:])
                    taken += self.no_text_unless_shown(text[:place] + sign + text[place + 1:])
        self.assertGreater(taken, 100)

    def test_texts_of_words_in_any_order(self):
        words = ("set", "again", "a", "b", "0", "1", "7", "[", "]", "do", "set a 1 1", "again 2 [", "set b 1", "", "01")
        spread = Spread(131)
        taken = 0
        for _ in range(4000):
            row = " ".join(words[spread.number(len(words))] for _ in range(spread.number(7)))
            taken += self.no_text_unless_shown(HEAD + "do " + row)
            taken += self.no_text_unless_shown("prime 7\nboxes a b\ndo " + row)
        self.assertGreater(taken, 20)
